import PyProof.Rows.All
import Wide.All
import OpenK.AllK
import Wide.FinOn
import Lean
import PyProof.EqAt
import PyProof.EqKinds
import PyProof.TupleCall
import PySem.Challenge.RW_rowsbeneath_k61_plain_kinds
set_option Elab.async false
set_option linter.all false
set_option maxRecDepth 100000
set_option autoImplicit true
set_option relaxedAutoImplicit true
set_option maxHeartbeats 0
theorem U.{u}{α:Sort u}{a:α}:a=a:=rfl
theorem GZ{G:Prop}(f:∀G':Prop,(G->G')->G'):G:=f G id
local macro_rules|`(tactic| obtain ⟨$a,$b,$c,$p,*⟩:=$e)=>`(tactic| ((refine GZ fun G g=>?_);(rcases $e:term with ⟨$a,$b,$c,$p,*⟩)<;>(refine g ?_;clear g G)))
abbrev ZF:=PySem.W.Frag
section
open PySem PySem.Spec PyProof.Rows
abbrev Vq:=PySem.Value
abbrev Vr:=PySem.Addr
abbrev Vs:=PySem.Shared
abbrev Vt:=PySem.Program
abbrev Vu:=PySem.World
abbrev Vv:=PySem.Around
abbrev Vw:=PySem.FuncData
abbrev Vx:=List Str
abbrev Vy:=List Nat
abbrev Vz:=List (Str×Str)
def a_:=@PySem.wpAny_bind
def b_:=@decide_eq_true
def c_:=@decide_eq_false
def d_:=@PySem.wpAny_pure
def e_:=@congrArg
def f_:=@if_neg
def g_:=@if_pos
def h_:=@PySem.PassesOwn.never
def i_:=@of_decide_eq_true
def j_:=@PySem.wpAny_mono
def k_:=@List.take_add_one
def l_:=@or_false
def m_:=@PySem.wpAny_truthy_bool
def n_:=@PySem.wpAny_field
def o_:=@PySem.wpAny_standAt
def p_:=@PySem.wpAny_holding
def q_:=@PySem.wpAny_Call_Name_kw
def r_:=@PySem.wpAny_newObj_type
def s_:=@Option.bind_some
def t_:=@PySem.Heap.get?_update_self
def u_:=@PySem.codeAny_mono
def v_:=@PySem.wpAny_loadPart_at
def w_:=@PySem.wpAny_isSubtype_exc
def x_:=@List.contains_cons
def y_:=@Bool.false_eq_true
def z_:=@PySem.Heap.get?_update_other
def A_:=@PySem.W.methodCall_KW
def B_:=@PySem.wpAny_passesOwn
def C_:=@Nat.le_add_right
def D_:=@PySem.F.slot_tuple_iterator_next
def E_:=@PySem.wpAny_call
def F_:=@Ne.symm
def G_:=@decide_eq_true_eq
def H_:=@Array.getElem?_setIfInBounds_ne
def I_:=@PySem.wpAny_loadPart'
def J_:=@PySem.wpAny_callSpecial?_slot
def K_:=@if_true
def L_:=@Nat.min_le_right
def M_:=@List.mem_of_mem_drop
def N_:=@List.forall_mem_cons
def O_:=@List.forall_mem_nil
def Pi:=@if_false
def P_:=@decide_eq_true_iff
def Q_:=@PySem.codeAny_call_builtin
def R_:=@PySem.F.excBase_ValueError
def SC:=@PySem.sizeLine_eq
def SV:=@List.length_range
def SW:=@PySem.F.args_tuple_add_2
def SX:=@PySem.F.entry_tuple_add
def SY:=@PySem.tupleKind_room_in1
def SZ:=@PySem.wpAny_setField
def S0:=@PySem.wpAny_loadPart
def S1:=@PySem.F.slot_tuple_add
def S2:=@List.getElem?_set_self
def S3:=@List.filter_eq_nil_iff
def S4:=@PySem.wpAny_pyIter_enum
def S5:=@beq_iff_eq
def S6:=@Nat.mod_lt
def S7:=@PySem.W.looks_findIn
def S8:=@Nat.mul_le_mul_right
def S9:=@List.getElem?_set_ne
def S_:=@PySem.wpAny_call_entry
def Ta:=@Prod.mk.inj
def Te:=@Nat.one_mul
def Tf:=@Nat.le_succ
def Tg:=@PySem.W.plainGet_of
def Th:=@List.take_succ_cons
def Ti:=@List.mem_map_of_mem
def Tj:=@List.getElem_of_mem
def Tk:=@PySem.wpAny_execs_nil
def Tl:=@Bool.and_self
def Tn:=@PySem.Obj.isFreed_of_fields
def To:=@Int.emod_lt_of_pos
def Tp:=@PySem.typeIs_str
def Tq:=@PySem.wpAny_newFunctionEnv
def Tr:=@Option.isSome_map
def Ts:=@List.take_sublist
def Tu:=@Bool.not_eq_true'
def Tv:=@PyProof.Rows.slot_tuple_getitem
def Tw:=@PyProof.Rows.callWith_builtin1
def TB:=@PySem.Heap.get?_update_ne
def TD:=@List.eq_nil_of_length_eq_zero
def TH:=@PySem.wpAny_attempt
def TJ:=@Sum.inr.inj
def TM:=@PySem.wpAny_pyIter_tuple
def TQ:=@PySem.Obj.data_mapFields
def TR:=@List.range_succ
def TU:=@List.forIn_cons
def TV:=@List.all_append
def TY:=@Int.emod_nonneg
def TZ:=@PySem.F.slot_enumerate_next
def T0:=@Int.fdiv_eq_ediv_of_nonneg
def T9:=@PySem.call_meets
def T_:=@PySem.wpAny_assign_Name
def Ua:=@List.take_zero
def Ub:=@List.drop_zero
def Uc:=@PySem.plainObj_wpAny_Assign_Attribute
def Ud:=@List.getElem?_take_of_lt
abbrev Ue:Str:="_law_stream_here"
abbrev Uf:Str:="_law_fields"
abbrev Ug:Str:="_law_table"
abbrev Uh:Str:="place"
abbrev Ui:Str:="self"
abbrev Uj:Str:="width"
abbrev Uk:Str:="mark"
abbrev Ul:Str:="places"
abbrev Um:Str:="reader"
abbrev Uo:Str:="cells"
abbrev Up:Str:="marks"
abbrev Uq:Str:="depth"
abbrev Ur:Str:="_law_found"
abbrev Us:Str:="names"
abbrev Ut:Str:="fault"
abbrev Uu:Str:="_law_deed"
abbrev Uv:Str:="kind"
abbrev Uw:Str:="_law_many"
abbrev Ux:Str:="_law_name"
abbrev Uy:Str:="_law_sort"
abbrev Uz:Str:="call"
abbrev UA:Str:="_law_names_here"
abbrev UB:Str:="_law_kind"
abbrev UC:Str:="kinds_known"
abbrev UD:Str:="gate"
abbrev UE:Str:="kinds"
abbrev UF:Str:="brackets"
abbrev UG:Str:="words"
abbrev UH:Str:="_law_script"
abbrev UI:Str:="word"
abbrev UJ:Str:="next"
abbrev UK:Str:="_law_way"
abbrev UL:Str:="_law_plain"
abbrev UM:Str:="tokens"
abbrev UN:Str:="back"
abbrev UO:Str:="stop"
abbrev UP:Str:="_law_sel_here"
abbrev UQ:Str:="table"
abbrev UR:Str:="_law_k"
abbrev US:Str:="text"
abbrev UT:Str:="_law_choices"
abbrev UU:Str:="thing"
abbrev UV:Str:="_law_thing"
abbrev UW:Str:="top"
abbrev UX:Str:="given"
abbrev UY:Str:="choices"
abbrev UZ:Str:="sort"
abbrev U0:Str:="_law_rows"
abbrev U1:Str:="_law_words"
abbrev U2:Str:="_law_cell_here"
abbrev U3:Str:="row"
abbrev U4:Str:="go"
abbrev U5:Str:="_law_one"
abbrev U6:Str:="cell_free"
abbrev U7:Str:="field"
abbrev U8:Str:="_law_deep"
abbrev U9:Str:="fields"
abbrev U_:Str:="_law_inner"
abbrev Va:Str:="_law_numbers"
abbrev Vb:Str:="else"
abbrev Vc:Str:="high"
abbrev Vd:Str:="deed"
abbrev Ve:Str:="_law_head"
abbrev Vf:Str:="if"
abbrev Vg:Str:="deep"
abbrev Vh:Str:="bare"
abbrev Vi:Str:="_law_e"
abbrev Vj:Str:="spot"
abbrev Vk:Str:="leaf"
abbrev Vl:Str:="sorts"
abbrev Vm:Str:="_law_j"
abbrev Vn:Str:="low"
abbrev Vo:Str:="token"
abbrev Vp:Str:="body"
def Mc:=@List.getElem?_eq_some_iff
def Md:=@List.length_append
def Me:=@List.length_map
def Mf:=@List.mem_cons_self
def Mg:=@List.length_cons
def Mh:=@Heap.get?_push_of_some
def Mi:=@List.getElem?_eq_getElem
def Mj:=@List.mem_append_right
def Ml:=@Nat.le_refl
def Mm:=@Heap.lt_size
def Mn:=@List.mem_cons_of_mem
def Mo:=@List.mem_cons
def Mp:=@List.length_take
def Mq:=@List.map_append
def Mr:=@List.mem_of_getElem?
def Ms:=@Nat.lt_of_lt_of_le
def Mt:=@List.getElem?_map
def Mu:=@List.not_mem_nil
def Mv:=@List.length_nil
def Mw:=@PySem.F.plainAttrs_list
def Mx:=@PySem.F.type_list_append
def My:=@PySem.F.slot_list_append
def Mz:=@List.map_cons
def MA:=@Bool.false_ne_true
def MB:=@Heap.get?_push_size
def MC:=@List.mem_append
def MD:=@List.take_length
def ME:=@Nat.ne_of_lt
def MF:=@List.size_toArray
def MG:=@PySem.boot_len
def MH:=@Nat.pow_le_pow_right
def MI:=@List.getD_eq_getElem?_getD
def MJ:=@List.mem_singleton
def ML:=@PySem.W.mg_of
def MM:=@List.append_nil
def MN:=@Option.some.inj
def MO:=@List.mem_append_left
def MP:=@Nat.le_trans
def MQ:=@List.mem_map
def MR:=@Nat.zero_le
def MS:=@List.append_assoc
def MT:=@List.all_eq_true
def MU:=@PySem.W.mg_none_of
def MV:=@List.contains_iff_mem
def MW:=@List.take_succ
def MX:=@List.getElem_mem
def MY:=@List.length_drop
def MZ:=@List.drop_eq_getElem_cons
def M0:=@PyProof.Rows.boot_int
def M5:=@PySem.F.plainAttrs_str
def M6:=@List.mem_of_mem_take
def M7:=@Nat.lt_irrefl
def M8:=@List.map_map
def M9:=@PySem.F.type_str_join
def Na:=@PySem.F.slot_str_join
def Nb:=@List.take_append_drop
def Nc:=@Bool.eq_false_iff
def Nd:=@List.take_of_length_le
def Nf:=@PySem.W.kia_one
def Ng:=@List.length_pos_iff
def Nh:=@Bool.and_eq_true
def Ni:=@List.lookup_cons
def Nj:=@List.getElem?_append_right
def Nk:=@List.getElem?_append_left
def Nl:=@List.cons_append
def Nm:=@Int.toNat_natCast
def Nn:=@List.mem_range
def No:=@Bool.eq_iff_iff
def Np:=@PySem.W.callWith_K
def Nq:=@PyProof.Rows.callWith_type1
def Nr:=@List.filter_append
def Nt:=@List.filterMap_cons
def Nu:=@List.length_replicate
def Nv:=@List.filter_cons_of_pos
def Nw:=@List.length_eq_zero_iff
def Ny:=@List.map_nil
def Nz:=@List.flatMap_cons
def NB:=@List.mem_filter
def NC:=@PySem.mem_of_lookup
def ND:=@Heap.size_push
def NE:=@Array.length_toList
def NG:=@Nat.lt_succ_self
def NH:=@List.nodup_cons
def NJ:=@List.find?_cons
def NL:=@Nat.min_eq_left
def NN:=@Nat.pow_succ
def NO:=@List.nil_append
def NP:=@List.filter_cons_of_neg
def NQ:=@Calls.callWith_builtin
def NR:=@Nat.add_mul
def NS:=@List.nodup_append
def NT:=@Nat.pow_pos
def NV:=@List.flatten_cons
def NX:=@Nat.le_of_lt
def NY:=@List.sum_cons
def NZ:=@List.any_cons
def N0:=@List.of_mem_zip
def N4:=@Option.map_some
def N5:=@Nat.ne_of_gt
def N6:=@List.all_map
end
set_option hygiene false in
local macro_rules|`(tactic| walk_at "l")=>`(tactic| first|(cases h;subst_vars;rfl)|((repeat rcases h with⟨_,h⟩)<;>(subst_vars;rfl)))
set_option hygiene false in
local macro_rules|`(tactic| walk_at "o")=>`(tactic| refine F.ok ZZ (λvs H Q E h=>by walk_at "l") (λOf A outer s H vs Q E hr h=>?_))
def zk{p:Prop}(h:p:=by decide +kernel):p:=h
def zo{p:Prop}(h:p:=by lia):p:=h
def zd{p:Prop}(h:p:=by decide):p:=h
def Qa(h:Nat.ble n 1000=true:=by rfl):n<=PySem.sizeLine:=Nat.le_trans (Nat.le_of_ble_eq_true h) zd
namespace L2
open PySem PySem.Spec PyProof.Rows
abbrev di:=Sum Int Str
def oU:di->Vq->Bool
 |.inl k,v=>Value.isInt k v
 |.inr x,v=>Value.isStrOf x v
def Kh(w:Vu):di->Int
 |.inl k=>hashInt k
 |.inr x=>hashStr w x
def cm:∀{k:di}{v:Vq},oU k v=true->(∃i t,k=Sum.inl i/\v=Value.int i t)\/(∃x t,k=Sum.inr x/\v=Value.str x t)
 |.inl i,v,h=>by
  obtain⟨t,e⟩:=Value.isInt_shape (k:=i) (v:=v) h;exact .inl ⟨i,t,U,e⟩
 |.inr x,v,h=>by
  obtain⟨t,e⟩:=Value.isStrOf_shape (x:=x) (v:=v) h;exact .inr ⟨x,t,U,e⟩
def yd(i:Int)(t:Tok):oU (.inl i) (.int i t)=true:=by simp[oU,Value.isInt]
def ye(x:Str)(t:Tok):oU (.inr x) (.str x t)=true:=by simp[oU,Value.isStrOf]
def FG(a b:Int):decide ((Sum.inl a:di)=Sum.inl b)=(a==b):=by
 by_cases e:a=b
 ·subst e;simp
 ·have h:¬(Sum.inl a:di)=Sum.inl b:=λq=>e (Sum.inl.inj q);rw[c_ h];exact(beq_eq_false_iff_ne.mpr e).symm
def FH(a b:Str):decide ((Sum.inr a:di)=Sum.inr b)=decide (a=b):=by
 by_cases e:a=b
 ·subst e;simp
 ·have h:¬(Sum.inr a:di)=Sum.inr b:=λq=>e (TJ q);rw[c_ h,c_ e]
def FJ(a:Int)(b:Str):decide ((Sum.inl a:di)=Sum.inr b)=false:=c_ (λq=>nomatch q)
def FM(a:Str)(b:Int):decide ((Sum.inr a:di)=Sum.inl b)=false:=c_ (λq=>nomatch q)
def cG(o:Vt)(w:Vu):PySem.KeyKind o w di where
 is:=oU
 hash:=Kh w
 inj:=λv a b O z=>by
  rcases cm O with⟨i,t,rfl,rfl⟩|⟨x,t,rfl,rfl⟩
  ·rcases cm z with⟨j,u,rfl,e⟩|⟨y,u,rfl,e⟩
   ·injection e with e1 _;rw[e1]
   ·exact nomatch e
  ·rcases cm z with⟨j,u,rfl,e⟩|⟨y,u,rfl,e⟩
   ·exact nomatch e
   ·injection e with e1 _;rw[e1]
 byValue:=λk v h=>by
  rcases cm h with⟨i,t,rfl,rfl⟩|⟨x,t,rfl,rfl⟩<;>rfl
 pyHash:=λq h=>by
  rcases cm q with⟨i,t,rfl,rfl⟩|⟨x,t,rfl,rfl⟩
  ·exact wpAny_pyHash_int h
  ·exact wpAny_pyHash_str h
 eqBool:=λI q h=>by
  rcases cm I with⟨i,t,rfl,rfl⟩|⟨x,t,rfl,rfl⟩
  ·rcases cm q with⟨j,u,rfl,rfl⟩|⟨y,u,rfl,rfl⟩
   ·rw[FG]at h;exact wpAny_eqBool_int h
   ·rw[FJ]at h;exact SeqAt.EqAt.int_str i t y u _ _ _ _ h
  ·rcases cm q with⟨j,u,rfl,rfl⟩|⟨y,u,rfl,rfl⟩
   ·rw[FM]at h;exact SeqAt.EqAt.str_int x t j u _ _ _ _ h
   ·rw[FH]at h;exact wpAny_eqBool_str h
 «strs»:=λk x t v h=>by
  rcases cm h with⟨i,u,rfl,e⟩|⟨y,u,rfl,e⟩
  ·exact nomatch e
  ·injection e with e1 _;subst e1;cases v<;>rfl
def rY(e:Vt)(w:Vu)(i:Int)(t:Tok):(cG e w).is (.inl i) (.int i t)=true:=yd i t
def rZ(e:Vt)(w:Vu)(x:Str)(t:Tok):(cG e w).is (.inr x) (.str x t)=true:=ye x t
inductive V where
 |non|bl (b:Bool)|int (i:Int)|str (x:Str)|byt (b:Array UInt8)|flt (b:UInt64)|ref (a:Vr)|ty (n:String)
 deriving DecidableEq
abbrev VA:=List V
def Qd:V->Vq->Prop
 |.non,u=>u=Value.none
 |.bl b,u=>u=Value.bool b
 |.int i,u=>∃t,u=Value.int i t
 |.str x,u=>∃t,u=Value.str x t
 |.byt b,u=>∃t,u=Value.bytes b t
 |.flt b,u=>∃t,u=Value.float b t
 |.ref a,u=>u=Value.ref a
 |.ty n,u=>u=Value.type n
abbrev Qb:VA->List Vq->Prop:=Paired Qd
variable{us:List Vq}{xs:VA}
def Qb.length(r:Qb xs us):xs.length=us.length:=Paired.length r
def Qb.get:∀{xs:VA}{us:List Vq}{i:Nat}{x:V},Qb xs us->xs[i]?=some x->∃u,us[i]?=some u/\Qd x u
 |_,_,_,_,.nil,e=>by simp at e
 |_,_,0,_,.cons r _,e=>by simp at e;subst e;exact⟨_,U,r⟩
 |_,_,i+1,x,.cons _ t,e=>by
  obtain⟨u,o,d⟩:=Qb.get (i:=i) (x:=x) t (by simpa using e);exact⟨u,by simpa using o,d⟩
variable{u:Vq}{x:V}
def Qb.set(r:Qd x u):∀{xs:VA}{us:List Vq}(i:Nat),Qb xs us->Qb (xs.set i x) (us.set i u)
 |_,_,_,.nil=>.nil
 |_,_,0,.cons _ t=>.cons r t
 |_,_,i+1,.cons q t=>.cons q (Qb.set r i t)
def Qb.append:∀{xs e:VA}{us q:List Vq},Qb xs us->Qb e q->Qb (xs++e) (us++q)
 |_,_,_,_,.nil,s=>s
 |_,_,_,_,.cons r t,s=>.cons r (Qb.append t s)
def Qb.take:∀{xs:VA}{us:List Vq}(n:Nat),Qb xs us->Qb (xs.take n) (us.take n)
 |_,_,0,_=>.nil
 |_,_,_+1,.nil=>.nil
 |_,_,n+1,.cons r t=>.cons r (Qb.take n t)
def Qb.drop:∀{xs:VA}{us:List Vq}(n:Nat),Qb xs us->Qb (xs.drop n) (us.drop n)
 |_,_,0,r=>r
 |_,_,_+1,.nil=>.nil
 |_,_,n+1,.cons _ t=>Qb.drop n t
def QB:Option V->Option Vq->Prop
 |some v,some u=>Qd v u
 |none,none=>True
 |_,_=>False
def KV{κ:Type}:List (κ×V)->List (κ×Vq)->Prop:=Paired λ(p:κ×V)(q:κ×Vq)=>p.1=q.1/\Qd p.2 q.2
def kV:di->V
 |.inl i=>.int i
 |.inr x=>.str x
inductive HO where
 |lst (xs:VA)
 |tup (xs:VA)
 |dK (e:List (di×V))|dT (e:List (List di×V))
 |set (S:Int->Bool) (n:Nat)
 |ins (C i:Vr) (t:List (Str×V))
 |own (x:Vr)
 |xd (t:List (Str×V))
 |met (f x:Vr)
 |rng (lo r:Int)
 |frz (o:Obj) (u:HO)
 |tbl (d:Array Vq)
 |ext (φ:Heap->Prop)
abbrev Hp:=Vr->Option HO
def aB(H:Hp)(a:Vr)(o:HO):Hp:=λb=>if b=a then some o else H b
variable{o:HO}{a:Vr}{H:Hp}
def aa:aB H a o a=some o:=by unfold aB;rw[g_ rfl]
variable{b:Vr}
def al(h:b≠a):aB H a o b=H b:=by unfold aB;rw[f_ h]
def gP{o u:HO}(h:H a=some o)(t:H b=some u)(d:o≠u):a≠b:=by
 intro e;subst e;rw[h]at t;exact d (MN t)
def au(h:H a=some o)(t:H b=none):a≠b:=by
 intro e;subst e;rw[h]at t;cases t
def Rl(h:Heap)(a:Vr)(q:Array Vq):Prop:=∃o,h.get? a=some o/\(o.cls,o.dict)=(Value.type "tuple",none)/\∃n,o.data=Data.seq q n
variable{Oi:Array Vq}{h:Heap}
def Rl.up(p:Rl h a Oi):IsTup h a Oi:=by obtain⟨o,e,c,d⟩:=p;exact ⟨o,e,(Ta c).1,d⟩
def Rl.lt(p:Rl h a Oi):a<h.objs.size:=let⟨_,e,_⟩:=p;Mm e
def Rl.new(h:Heap)(Oi:Array Vq):Rl (h.push {cls:=.type "tuple",data:=.seq Oi}) h.objs.size Oi:=⟨_,MB _ U,U,_,U⟩
section
variable(P:Vt)(w:Vu)
def Qe(H:Hp)(h:Heap)(a:Vr):HO->Prop
 |.lst xs=>xs.length<=sizeLine/\∃(z:List Vq)(n:Nat),Qb xs z/\h.get? a=some {cls:=.type "list",data:=.seq z.toArray n}
 |.tup xs=>xs.length<=sizeLine/\∃z:List Vq,Qb xs z/\Rl h a z.toArray
 |.dK e=>e.length<=sizeLine/\(a==sysModules)=false/\∃vs,KV e vs/\h.DictOf (cG P w) a vs
 |.dT e=>e.length<=sizeLine/\(a==sysModules)=false/\∃xs:List (List di×Vr×Vq),
   Paired (λ(p:List di×V)(q:List di×Vr×Vq)=>p.1=q.1/\H q.2.1=some (.tup<|p.1.map kV)/\Qd p.2 q.2.2) e xs /\
   ∃o I ep,h.get? a=some o/\o.ExactDict/\o.data=.dict I ep/\I.toList=xs.map (entryOfKey<|tupleKind<|cG P w)/\(xs.map (·.1)).Nodup
 |.set S n=>h.SetOf (intKind P w) a S n
 |.ins C O i=>H O=some (.own a)/\i.length<=1000/\O≠a/\h.get? a=some (PySem.W.instObj C O) /\
   ∃mA,h.Ns1 O mA/\(∀f,QB (i.lookup f)<|mA f)/\PySem.Within mA (i.map (·.1))
 |.own _=>∃o,h.get? a=some o
 |.xd i=>∃mA,h.Ns1 a mA/\∀f,QB (i.lookup f) (mA f)
 |.rng lo D=>∃t u v,h.get? a=some {cls:=.type "range",data:=.fields #[.int lo t,.int D u,.int 1 v]}
 |.frz o u=>h.get? a=some o/\Qe H h a u
 |.tbl m=>h.get? a=some {cls:=.none,data:=.fields m}
 |.met f x=>h.get? a=some (PySem.W.methodObj (.ref f)<|.ref x)
 |.ext φ=>φ h/\(∃o,h.get? a=some o)/\∀r d:Heap,φ r->(∀o,r.get? a=some o->d.get? a=some o)->φ d
def Qt(H:Hp)(h:Heap):Prop:=∀a o,H a=some o->Qe P w H h a o
end
section
variable{P:Vt}{w:Vu}{H i:Hp}{h h':Heap}{a:Vr}{o:HO}
def Qe.lt(x:Qe P w H h a o):a<h.objs.size:=by
 cases o with
 |lst xs=>obtain⟨_,_,_,_,e⟩:=x;exact Mm e
 |tup xs=>obtain⟨_,_,_,p⟩:=x;exact p.lt
 |dK t=>obtain⟨_,_,_,_,o,_,_,e,_⟩:=x;exact Mm e
 |dT t=>obtain⟨_,_,_,_,o,_,_,e,_⟩:=x;exact Mm e
 |set S n=>obtain⟨o,_,_,_,e,_⟩:=x;exact Mm e
 |ins C q r=>obtain⟨_,_,_,e,_⟩:=x;exact Mm e
 |own y=>obtain⟨_,e⟩:=x;exact Mm e
 |xd r=>obtain⟨_,⟨_,_,_,e,_⟩,_⟩:=x;exact Mm e
 |rng lo z=>obtain⟨_,_,_,e⟩:=x;exact Mm e
 |frz O u=>obtain⟨e,_⟩:=x;exact Mm e
 |tbl d=>exact Mm (show h.get? a=some _ from x)
 |met f y=>exact Mm (show h.get? a=some _ from x)
 |ext φ=>obtain⟨_,⟨_,e⟩,_⟩:=x;exact Mm e
def Paired.mapP{α β:Type}{F G:α->β->Prop}:∀{q:List α}{z:List β},Paired F q z->(∀a b,F a b->G a b)->Paired G q z
 |_,_,.nil,_=>.nil
 |_,_,.cons r t,f=>.cons (f _ _ r) (Paired.mapP t f)
def Qe.stay(x:Qe P w H h a o)(k:∀b u,(b=a\/H b=some (.own a))->h.get? b=some u->h'.get? b=some u)
  (L:∀b,H b=some (.own a)->i b=some (.own a)) (Y:∀b xs,H b=some (.tup xs)->i b=some (.tup xs)):Qe P w i h' a o:=by
 induction o with
 |lst xs=>obtain⟨z,D,n,r,e⟩:=x;exact⟨z,D,n,r,k _ _ (.inl U) e⟩
 |tup xs=>obtain⟨z,D,r,O,e,c⟩:=x;exact⟨z,D,r,O,k _ _ (.inl U) e,c⟩
 |dK m=>obtain⟨z,y,vs,r,O,I,ep,e,c⟩:=x;exact⟨z,y,vs,r,O,I,ep,k _ _ (.inl U) e,c⟩
 |dT m=>
  obtain⟨z,y,xs,r,O,I,ep,e,c⟩:=x;exact⟨z,y,xs,Paired.mapP r λp q z=>⟨z.1,Y _ _ z.2.1,z.2.2⟩,O,I,ep,k _ _ (.inl U) e,c⟩
 |set S n=>obtain⟨O,I,ep,t,e,c⟩:=x;exact⟨O,I,ep,t,k _ _ (.inl U) e,c⟩
 |ins C J R=>
  obtain⟨d,z,ne,e,mA,⟨j,I,ep,e2,c⟩,r⟩:=x;exact⟨L _ d,z,ne,k _ _ (.inl U) e,mA,⟨j,I,ep,k _ _ (.inr d) e2,c⟩,r⟩
 |own y=>obtain⟨O,e⟩:=x;exact⟨O,k _ _ (.inl U) e⟩
 |xd R=>obtain⟨mA,⟨j,I,ep,e,c⟩,r⟩:=x;exact⟨mA,⟨j,I,ep,k _ _ (.inl U) e,c⟩,r⟩
 |rng lo Z=>obtain⟨t,u,v,e⟩:=x;exact⟨t,u,v,k _ _ (.inl U) e⟩
 |frz O u G=>obtain⟨e,q⟩:=x;exact⟨k _ _ (.inl U) e,G q⟩
 |tbl N=>
  have e:h.get? a=some {cls:=.none,data:=.fields N}:=x;show h'.get? a=some {cls:=.none,data:=.fields N};exact k a _ (.inl U) e
 |met f y=>
  have e:h.get? a=some (PySem.W.methodObj (.ref f)<|.ref y):=x;show h'.get? a=some (PySem.W.methodObj (.ref f)<|.ref y);exact k a _ (.inl U) e
 |ext φ=>obtain⟨p,⟨o,e⟩,st⟩:=x;exact⟨st _ _ p λo q=>k _ _ (.inl U) q,⟨o,k _ _ (.inl U) e⟩,st⟩
def Qt.lt(x:Qt P w H h)(e:H a=some o):a<h.objs.size:=(x a o e).lt
def Qt.fresh(x:Qt P w H h)(e:h.objs.size<=a):H a=none:=by
 cases q:H a with
 |none=>rfl
 |some u=>exact absurd (Ms (x.lt q) e) (M7 _)
def Qt.kept(x:Qt P w H h)(k:∀b u,h.get? b=some u->h'.get? b=some u):Qt P w H h':=λa o e=>
 (x a o e).stay (λb u _ q=>k b u q) (λ_ q=>q) λ_ _ q=>q
def Qt.laid(x:Qt P w H h)(k:∀b u,h.get? b=some u->h'.get? b=some u)(I:h.objs.size<=a)(new:Qe P w (aB H a o) h' a o):Qt P w (aB H a o) h':=λb u e=>by
 have O:=x.fresh I;by_cases z:b=a
 ·subst z;rw[aa]at e;cases e;exact new
 ·rw[al z]at e;exact(x b u e).stay (λc v _ q=>k c v q) (λc q=>by rw[al<|au q O];exact q) λc xs q=>by rw[al<|au q O];exact q
end
def Rd(H:Hp)(a:Vr)(u:HO):Prop:=H a=some u\/∃o,H a=some (.frz o u)
variable{w:Vu}{P:Vt}
def Rd.ok{u:HO}(r:Rd H a u)(x:Qt P w H h):Qe P w H h a u:=by
 rcases r with r|⟨o,r⟩
 ·exact x a u r
 ·obtain⟨_,q⟩:=x a _ r;exact q
def HU:Option HO->Prop
 |some (.lst _)=>True
 |some (.dK _)=>True
 |some (.dT _)=>True
 |some (.set _ _)=>True
 |some (.ins _ _ _)=>True
 |some (.ext _)=>True
 |_=>False
section
variable{P:Vt}{w:Vu}{H:Hp}{h h':Heap}{x e:Vr}{o':HO}
def Qt.write(ok:Qt P w H h)(G:HU (H x))(J:e=x\/H e=some (.own x))(k:∀b u,b≠e->h.get? b=some u->h'.get? b=some u)(YG:∃u,h'.get? e=some u)
  (new:Qe P w (aB H x o') h' x o'):Qt P w (aB H x o') h':=λb u q=>by
 have O:∀c y,H c=some (.own y)->c≠x:=λc y r z=>by subst z;rw[r]at G;exact G
 have I:∀c xs,H c=some (.tup xs)->c≠x:=λc xs r z=>by subst z;rw[r]at G;exact G
 by_cases L:b=x
 ·subst L;rw[aa]at q;cases q;exact new
 ·rw[al L]at q;by_cases D:b=e
  ·have Z:H b=some (.own x):=by
    rcases J with z|z
    ·exact absurd (D.trans z) L
    ·rw[D];exact z
   rw[q]at Z;cases Z;obtain⟨v,t⟩:=YG;exact⟨v,by rw[D];exact t⟩
  ·refine(ok b u q).stay (λc v Y r=>k c v ?_ r) (λc r=>by rw[al<|O c b r];exact r) λc xs r=>by rw[al<|I c xs r];exact r
   rcases Y with rfl|Y
   ·exact D
   ·rintro rfl;rcases J with z|z
    ·exact O c b Y z
    ·rw[Y]at z;cases z;exact L rfl
end
structure Un(fs ex:List Vr)(H H':Hp)(h h':Heap):Prop where
 keep:∀b o,h.get? b=some o->H b=none->b∉fs->b∉ex->h'.get? b=some o
 slot:∀b o,h.get? b=some o->H b=none->b∈fs->b∉ex->∃sl,h'.get? b=some {o with slots:=sl}
 free:∀b o,h.get? b=some o->H b=none->b∉ex->H' b=none
 there:∀b o,h.get? b=some o->b∉ex->∃o',h'.get? b=some o'
 tups:∀b xs,H b=some (.tup xs)->H' b=some (.tup xs)
 frzs:∀b o u,H b=some (.frz o u)->H' b=some (.frz o u)
 tbls:∀b ps,H b=some (.tbl ps)->∃more,H' b=some (.tbl<|ps++more)
section
variable{t YH ex ex':List Vr}{H d m:Hp}{h i f h':Heap}{a x e:Vr}{o:HO}
def Un.any(u:Un t ex H d h i){z:Obj}(q:h.get? b=some z)(n:H b=none)(I:b∉ex):∃D,i.get? b=some {z with slots:=D}:=by
 by_cases O:b∈t
 ·exact u.slot b z q n O I
 ·exact⟨z.slots,u.keep b z q n O I⟩
def Un.kept(k:∀b u,h.get? b=some u->h'.get? b=some u):Un t ex H H h h':=
 ⟨λb z q _ _ _=>k b z q,λb z q _ _ _=>⟨z.slots,k b z q⟩,λ_ _ _ n _=>n,λb z q _=>⟨z,k b z q⟩,λ_ _ q=>q,λ_ _ _ q=>q,λ_ r q=>⟨#[],by rw[q];simp⟩⟩
def Un.refl:Un t ex H H h h:=Un.kept λ_ _ q=>q
def Un.laid(k:∀b u,h.get? b=some u->h'.get? b=some u)(O:h.objs.size<=a)(z:H a=none):Un t ex H (aB H a o) h h' where
 keep:=λb u q _ _ _=>k b u q
 slot:=λb u q _ _ _=>⟨u.slots,k b u q⟩
 free:=λb u q n _=>by rw[al<|ME<|Ms (Mm q) O];exact n
 there:=λb u q _=>⟨u,k b u q⟩
 tups:=λb xs q=>by rw[al<|au q z];exact q
 frzs:=λb u xs q=>by rw[al<|au q z];exact q
 tbls:=λb r q=>⟨#[],by rw[al<|au q z,q];simp⟩
def Un.write(O:HU (H x))(J:e=x\/H e=some (.own x))(k:∀b u,b≠e->h.get? b=some u->h'.get? b=some u)(G:∃u,h'.get? e=some u):Un t ex H (aB H x o) h h':=by
 have Y:∀b,H b=none->b≠x:=λb n z=>by subst z;rw[n]at O;exact O
 have L:∀b,H b=none->b≠e:=λb n z=>by
  subst z;rcases J with r|r
  ·exact Y b n r
  ·rw[n]at r;cases r
 have I:∀b u,H b=some u->¬HU (some u)->b≠x:=λb u q nm z=>by subst z;rw[q]at O;exact nm O
 refine⟨λb u q n _ _=>k b u (L b n) q,λb u q n _ _=>⟨u.slots,k b u (L b n) q⟩,λb u q n _=>by rw[al<|Y b n];exact n,λb u q _=>?_,
  λb xs q=>by rw[al (I b _ q λz=>z)];exact q,λb u xs q=>by rw[al (I b _ q λz=>z)];exact q,λb p q=>⟨#[],by rw[al (I b _ q λz=>z),q];simp⟩⟩
 by_cases D:b=e
 ·subst D;exact G
 ·exact⟨u,k b u D q⟩
end
def trk(h:Heap)(H:Hp):List Vr:=(List.range h.objs.size).filter λa=>(H a).isSome
def pS(h:Heap)(H:Hp):Heap:=PySem.W.hideAll h (trk h H)
def yf(h:Heap)(H:Hp):(pS h H).objs.size=h.objs.size:=PySem.W.hideAll_size _ _
def jz{o:Obj}(e:h.get? b=some o)(n:H b=none):(pS h H).get? b=some o:=
 PySem.W.hideAll_get _ e λz=>by
  have q:(H b).isSome=true:=(NB.mp z).2;rw[n]at q;simp at q
def CJ{o:Obj}(e:(pS h H).get? b=some o):h.get? b=some o/\H b=none:=by
 have O:h.get? b=some o:=PySem.W.of_hideAll (trk h H) e;refine⟨O,?_⟩;cases q:H b with
 |none=>rfl
 |some x=>
  have I:b∈trk h H:=NB.mpr ⟨Nn.mpr<|Mm O,by simp[q]⟩;have z:(pS h H).get? b=none:=PySem.W.hideAll_none (trk h H) I;rw[z]at e;cases e
structure Mod(K:ZF)(mg:Str->Option Vq)(base:Heap):Prop where
 kin:K.In base
 glob:base.Ns mainGlobals mg
 blt:∃mb,base.Ns builtinsNs mb/\∀x:Str,x≠"__name__"->mb x=bootBuiltins x
 nolimit:base.NoLimit
structure Cx where
 prog:Vt
 w:Vu
 K:ZF
 mg:Str->Option Vq
 base:Heap
 A:Vv
 N:Vx
 s₀:Vs
 H₀:Hp
 env:Env
 outer:List Env
 stack:List Env
 ex:List Vr
 fn:Str->Bool
 calm:Bool
 pn:List (Vr×Obj)
 xe:Vq->Vs->Prop
def mL(l:List Env):List Vr:=l.filterMap (·.frame)
abbrev Cx.fs(X:Cx):List Vr:=mL X.outer
def HG(e:Scope)(x:Str):Prop:=e.names.lookup x=some .local\/e.names.lookup x=some .cell\/e.names.lookup x=some .free
def CM(e:Scope)(x:Str):Prop:=e.names.lookup x=some .local\/e.names.lookup x=some .cell
def HV(e:Env)(h:Heap)(m:Str->Option Vq)(x:Str)(u:Vq):Prop:=
 (e.kindOf x=some .local/\m x=some u)\/((e.kindOf x=some .cell\/e.kindOf x=some .free)/\∃c,e.cells.lookup x=some c/\h.IsCell c (some u))
structure Cx.Ok(X:Cx):Prop where
 mod:Mod X.K X.mg X.base
 kind:X.env.scope.kind=.function
 glob:X.env.globals=mainGlobals
 blt:X.env.builtins=builtinsNs
 above:X.s₀.heap.objs.size<=X.env.locals
 inj:∀x y c,X.env.cells.lookup x=some c->X.env.cells.lookup y=some c->x=y
 has:∀x,(X.env.kindOf x=some .cell\/X.env.kindOf x=some .free)->∃c,X.env.cells.lookup x=some c
 cab:∀x c,X.fn x=true->X.env.cells.lookup x=some c->X.s₀.heap.objs.size<=c
 hd:X.calm=true->X.A.handled=none
 frames:X.A.frames=some X.stack
 stk:X.stack=X.outer\/(X.stack=X.env::X.outer/\X.env.frame=some X.env.locals)
 exf:∀b∈X.ex,b≠X.env.locals/\∀x c,X.env.cells.lookup x=some c->c≠b
 bs:∀b o,X.base.get? b=some o->X.s₀.heap.get? b=some o/\X.H₀ b=none
 bsz:X.base.objs.size<=X.s₀.heap.objs.size
 noex:∀b o,X.base.get? b=some o->b∉X.ex
 exfs:∀b∈X.ex,b∉X.fs
 funs:X.s₀.heap.FunFrames X.base X.outer
 frf:∀b∈X.fs,X.H₀ b=none
structure P6(X:Cx)(pins:List (Vr×Obj))(σ:List (Option V))(H:Hp)(s:Vs):Prop where
 ok:X.Ok
 os:s.os=X.s₀.os
 bare:AllBare s.gens
 base:Un X.fs X.ex X.H₀ H X.s₀.heap s.heap
 loc:∃m,s.heap.Ns X.env.locals m/\∀(i:Nat)(x:Str)(v:V),X.N[i]?=some x->σ[i]?=some (some v)->HG X.env.scope x->∃u,Qd v u/\HV X.env s.heap m x u
 cell:∀x c,X.env.cells.lookup x=some c->∃v,s.heap.IsCell c v
 free:H X.env.locals=none
 freeC:∀x c,X.env.cells.lookup x=some c->H c=none
 pin:∀p∈X.pn++pins,s.heap.get? p.1=some p.2/\H p.1=none/\p.1≠X.env.locals/\p.1∉X.fs/\∀v,p.2.data≠.cell v
 hok:Qt X.prog X.w H s.heap
 len:σ.length=X.N.length
section
variable{X:Cx}{f:List (Vr×Obj)}{R:List (Option V)}{H C:Hp}{s:Vs}{h':Heap}
def Cx.Ok.nofr(ok:X.Ok){o:Obj}(e:X.base.get? b=some o):b∉X.fs:=λq=>by
 have:=(ok.funs.mem q).1;rw[e]at this;cases this
def P6.bs(I:P6 X f R H s):∀b o,X.base.get? b=some o->s.heap.get? b=some o/\H b=none:=λb o e=>
 ⟨I.base.keep b o (I.ok.bs b o e).1 (I.ok.bs b o e).2 (I.ok.nofr e)<|I.ok.noex b o e,I.base.free b o (I.ok.bs b o e).1 (I.ok.bs b o e).2<|I.ok.noex b o e⟩
def P6.bk(I:P6 X f R H s):∀b o,X.base.get? b=some o->s.heap.get? b=some o:=λb o e=>(I.bs b o e).1
def P6.mod(I:P6 X f R H s):Mod X.K X.mg X.base:=I.ok.mod
def P6.kIn(I:P6 X f R H s):X.K.In s.heap:=I.ok.mod.kin.keeps I.bk
def P6.lt(I:P6 X f R H s):X.env.locals<s.heap.objs.size:=let⟨_,q,_⟩:=I.loc;q.lt
def P6.sz(I:P6 X f R H s):X.s₀.heap.objs.size<=s.heap.objs.size:=MP I.ok.above (NX I.lt)
def P6.nofs(I:P6 X f R H s)(h:s.heap.objs.size<=a):a∉X.fs:=λq=>by
 obtain⟨_,o,z,_⟩:=I.ok.funs.mem q;exact absurd (Ms (Mm z)<|MP I.sz h) (M7 _)
def P6.cne(I:P6 X f R H s):∀x c,X.env.cells.lookup x=some c->c≠X.env.locals:=λx c e z=>by
 obtain⟨v,o,q,t⟩:=I.cell x c e;obtain⟨m,⟨Y,L,ep,D,O,_⟩,_⟩:=I.loc;rw[z,D]at q;cases q;rw[O]at t;cases t
def P6.funs(I:P6 X f R H s):s.heap.FunFrames X.base X.outer:=by
 have all:∀(l:List Env),(∀b∈mL l,b∈X.fs)->X.s₀.heap.FunFrames X.base l->s.heap.FunFrames X.base l:=by
  intro l;induction l with
  |nil=>intro _ _;trivial
  |cons t r ih=>
   intro Y J;obtain⟨G,⟨L,o,D,Z,d,i⟩,hr⟩:=J;have q:L∈X.fs:=Y L (by unfold mL;rw[Nt,D];exact Mf);obtain⟨sl,e⟩:=I.base.slot L o d (I.ok.frf L q) q λz=>I.ok.exfs L z q;exact⟨G,⟨L,_,D,Z,e,i⟩,ih (λb O=>Y b<|by unfold mL;rw[Nt,D];exact Mn _ O) hr⟩
 exact all X.outer (λ_ O=>O) I.ok.funs
def P6.stack(I:P6 X f R H s):s.heap.FunFrames X.base X.stack:=by
 rcases I.ok.stk with e|⟨e,q⟩
 ·rw[e];exact I.funs
 ·rw[e];obtain⟨m,z,_⟩:=I.loc;refine .cons (by rw[I.ok.kind];decide) q z ?_ I.funs;exact Heap.get?_none_of_le (MP I.ok.bsz I.ok.above)
def P6.stkSub(I:P6 X f R H s):∀b∈mL X.stack,b∈X.env.locals::X.fs:=λb q=>by
 rcases I.ok.stk with e|⟨e,z⟩
 ·rw[e]at q;exact Mn _ q
 ·rw[e]at q;unfold mL at q;rw[Nt,z]at q;exact q
def P6.stkFree(I:P6 X f R H s):∀b∈mL X.stack,H b=none:=λb q=>by
 rcases Mo.mp (I.stkSub b q)with e|q
 ·rw[e];exact I.free
 ·obtain⟨_,o,O,_⟩:=I.ok.funs.mem q;exact I.base.free b o O (I.ok.frf b q) λz=>I.ok.exfs b z q
def P6.step{g':Array GenState}{t':Nat}{d':Drawn}{ch:List Vr}(I:P6 X f R H s)
  (J:∀b∈ch,(b∈X.ex\/X.s₀.heap.objs.size<=b)/\b≠X.env.locals/\(∀x c,X.env.cells.lookup x=some c->c≠b)/\∀p∈X.pn++f,p.1≠b)
  (keep:∀b o,b≠X.env.locals->b∉X.fs->b∉ch->s.heap.get? b=some o->H b=none->h'.get? b=some o)
  (slot:∀b o,b≠X.env.locals->b∈X.fs->b∉ch->s.heap.get? b=some o->H b=none->∃sl,h'.get? b=some {o with slots:=sl}) (free:∀b o,b∉ch->s.heap.get? b=some o->H b=none->C b=none)
  (there:∀b o,b∉ch->s.heap.get? b=some o->∃o',h'.get? b=some o')
  (tups:∀b xs,H b=some (.tup xs)->C b=some (.tup xs)) (frzs:∀b o u,H b=some (.frz o u)->C b=some (.frz o u)) (tbls:∀b t,H b=some (.tbl t)->∃more,C b=some (.tbl<|t++more))
  (ns:∀m,s.heap.Ns X.env.locals m->h'.Ns X.env.locals m) (hok:Qt X.prog X.w C h') (hg:AllBare g') :
  P6 X f R C {s with heap:=h',gens:=g',drawn:=d',toks:=t'}:=by
 have Z:∀b o,X.s₀.heap.get? b=some o->b≠X.env.locals:=λb o e=>ME (Ms (Mm e) I.ok.above);have L:∀b o,X.s₀.heap.get? b=some o->b∉X.ex->b∉ch:=λb o e O Y=>by
  rcases(J b Y).1 with z|z
  ·exact O z
  ·exact absurd (Ms (Mm e) z) (M7 _)
 have ZC:∀x c,X.env.cells.lookup x=some c->∀v,s.heap.IsCell c v->h'.IsCell c v:=λx c e v⟨o,G,j⟩=>by
  have D:c∉ch:=λz=>(J c z).2.2.1 x c e rfl;by_cases N:c∈X.fs
  ·obtain⟨sl,q⟩:=slot c o (I.cne x c e) N D G (I.freeC x c e);exact⟨_,q,j⟩
  ·exact⟨o,keep c o (I.cne x c e) N D G<|I.freeC x c e,j⟩
 refine⟨I.ok,I.os,hg,⟨λb o e n Y O=>?_,λb o e n Y O=>?_,λb o e n O=>?_,λb o e O=>?_,λb xs e=>tups b xs<|I.base.tups b xs e,λb o xs e=>frzs b o xs<|I.base.frzs b o xs e,λb t e=>?_⟩,?_,λx c e=>?_,?_,λx c e=>?_,λp M=>?_,hok,I.len⟩
 ·exact keep b o (Z b o e) Y (L b o e O) (I.base.keep b o e n Y O) (I.base.free b o e n O)
 ·obtain⟨sl,e1⟩:=I.base.slot b o e n Y O;obtain⟨ee,e2⟩:=slot b _ (Z b o e) Y (L b o e O) e1 (I.base.free b o e n O);exact⟨ee,e2⟩
 ·obtain⟨o',e1⟩:=I.base.there b o e O;exact free b o' (L b o e O) e1 (I.base.free b o e n O)
 ·obtain⟨o',e1⟩:=I.base.there b o e O;exact there b o' (L b o e O) e1
 ·obtain⟨m1,e1⟩:=I.base.tbls b t e;obtain⟨m2,e2⟩:=tbls b _ e1;exact⟨m1++m2,by rw[e2,Array.append_assoc]⟩
 ·obtain⟨m,hn,hl⟩:=I.loc;refine⟨m,ns m hn,λi x v e1 e2 B=>?_⟩;obtain⟨u,r,l⟩:=hl i x v e1 e2 B;refine⟨u,r,?_⟩;rcases l with l|⟨k,c,e,z⟩
  ·exact .inl l
  ·exact .inr ⟨k,c,e,ZC x c e _ z⟩
 ·obtain⟨v,z⟩:=I.cell x c e;exact⟨v,ZC x c e v z⟩
 ·obtain⟨m,⟨o,_,_,G,_⟩,_⟩:=I.loc;exact free _ o (λz=>(J _ z).2.1 U) G I.free
 ·obtain⟨v,o,G,j⟩:=I.cell x c e;exact free c o (λz=>(J c z).2.2.1 x c e U) G (I.freeC x c e)
 ·obtain⟨e,n,ne,nf,d⟩:=I.pin p M;have D:p.1∉ch:=λz=>(J p.1 z).2.2.2 p M rfl;exact⟨keep p.1 p.2 ne nf D e n,free p.1 p.2 D e n,ne,nf,d⟩
def P6.un{t':Nat}(I:P6 X f R H s)(u:Un X.fs [] H C s.heap h')(hok:Qt X.prog X.w C h'):P6 X f R C {s with heap:=h',toks:=t'}:=by
 obtain⟨m,⟨o,t,ep,Y,r⟩,_⟩:=id I.loc;obtain⟨sl,G⟩:=u.any Y I.free (by simp);exact I.step (g':=s.gens) (d':=s.drawn) (ch:=[]) (λ_ z=>nomatch z) (λb o _ D _ e n=>u.keep b o e n D<|by simp) (λb o _ D _ e n=>u.slot b o e n D<|by simp) (λb o _ e n=>u.free b o e n<|by simp) (λb o _ e=>u.there b o e<|by simp) u.tups u.frzs u.tbls (λm' J=>by
  obtain⟨o',O,q,L,Z⟩:=J;rw[Y]at L;cases L;exact⟨_,O,q,G,Z⟩) hok I.bare
variable{ch:List Vr}
def P6.call{g':Array GenState}{t':Nat}{d':Drawn}(I:P6 X f R H s)(u:Un (mL X.stack) ch H C s.heap h')(hok:Qt X.prog X.w C h')(t:AllBare g')
  (G:∀b∈ch,(b∈X.ex\/X.s₀.heap.objs.size<=b)/\b≠X.env.locals/\(∀x c,X.env.cells.lookup x=some c->c≠b)/\∀p∈X.pn++f,p.1≠b) :
  P6 X f R C {s with heap:=h',gens:=g',drawn:=d',toks:=t'}:=by
 obtain⟨m,⟨o,d,ep,J,r⟩,_⟩:=id I.loc;obtain⟨sl,L⟩:=u.any J I.free λz=>(G _ z).2.1 rfl;exact I.step (ch:=ch) G (λb o L Z q e n=>u.keep b o e n (λz=>(Mo.mp<|I.stkSub b z).elim L Z) q) (λb o _ _ q e n=>u.any e n q) (λb o q e n=>u.free b o e n q) (λb o q e=>u.there b o e q) u.tups u.frzs u.tbls (λm' i=>by
  obtain⟨o',D,O,Y,r'⟩:=i;rw[J]at Y;cases Y;exact⟨_,D,O,L,r'⟩) hok t
def P6.turned{t':Nat}{it:Vr}(I:P6 X f R H s)(k:∀b o,b≠it->s.heap.get? b=some o->h'.get? b=some o)(d:H it=none)(L:it≠X.env.locals)
  (t:it∈X.ex\/X.s₀.heap.objs.size<=it) (i:∀x c,X.env.cells.lookup x=some c->c≠it) (G:∀p∈X.pn++f,p.1≠it):P6 X f R H {s with heap:=h',toks:=t'}:=by
 have D:∀b u,H b=some u->b≠it:=λb u e z=>by rw[z,d]at e;cases e
 refine I.step (g':=s.gens) (d':=s.drawn) (ch:=[it]) (λb J=>?_) (λb o _ _ O e _=>k b o (λz=>O<|by simp[z]) e) (λb o _ _ O e _=>⟨o.slots,k b o (λz=>O<|by simp[z]) e⟩) (λ_ _ _ _ n=>n)
  (λb o O e=>⟨o,k b o (λz=>O<|by simp[z]) e⟩) (λ_ _ e=>e) (λ_ _ _ e=>e) (λb N e=>⟨#[],by rw[e];simp⟩) (λm Z=>?_) (λb u e=>?_) I.bare
 ·have e:b=it:=by simpa using J
  subst e;exact⟨t,L,i,G⟩
 ·obtain⟨o,Y,ep,j,r⟩:=Z;exact⟨o,Y,ep,k _ o (F_ L) j,r⟩
 ·refine(I.hok b u e).stay (λc v O q=>k c v ?_ q) (λ_ q=>q) λ_ _ q=>q;rcases O with z|z
  ·rw[z];exact D b u e
  ·exact D c _ z
def P6.tok(I:P6 X f R H s)(t:Nat):P6 X f R H {s with toks:=t}:=I.un (h':=s.heap) (t':=t) Un.refl I.hok
def P6.kept{t':Nat}(I:P6 X f R H s)(k:∀b u,s.heap.get? b=some u->h'.get? b=some u):P6 X f R H {s with heap:=h',toks:=t'}:=I.un (Un.kept k) (I.hok.kept k)
def P6.laid{t':Nat}(I:P6 X f R H s)(k:∀b u,s.heap.get? b=some u->h'.get? b=some u)(q:s.heap.objs.size<=a)(new:Qe X.prog X.w (aB H a o) h' a o):
  P6 X f R (aB H a o) {s with heap:=h',toks:=t'}:=I.un (Un.laid k q<|I.hok.fresh q) (I.hok.laid k q new)
def P6.write{x e:Vr}{o:HO}{t':Nat}(I:P6 X f R H s)(O:HU (H x))(z:e=x\/H e=some (.own x))(k:∀b u,b≠e->s.heap.get? b=some u->h'.get? b=some u)(q:∃u,h'.get? e=some u)
  (new:Qe X.prog X.w (aB H x o) h' x o):P6 X f R (aB H x o) {s with heap:=h',toks:=t'}:=I.un (Un.write O z k q) (I.hok.write O z k q new)
def P6.weak{e:List (Option V)}(I:P6 X f R H s)(O:e.length=R.length)(w:∀(i:Nat)v,e[i]?=some (some v)->R[i]?=some (some v)):P6 X f e H s:=
 ⟨I.ok,I.os,I.bare,I.base,let⟨m,D,q⟩:=I.loc;⟨m,D,λi x v e1 e2 z=>q i x v e1 (w i v e2) z⟩,I.cell,I.free,I.freeC,I.pin,I.hok,O.trans I.len⟩
def P6.pins_of{pins':List (Vr×Obj)}(I:P6 X f R H s)(h:∀p∈pins',s.heap.get? p.1=some p.2/\H p.1=none/\p.1≠X.env.locals/\p.1∉X.fs/\∀v,p.2.data≠.cell v):P6 X pins' R H s:=
 ⟨I.ok,I.os,I.bare,I.base,I.loc,I.cell,I.free,I.freeC,λp q=>(MC.mp q).elim (λz=>I.pin p<|MO _ z)<|h p,I.hok,I.len⟩
variable{i j:Nat}
def mM{N:Vx}(q:N.Nodup){x:Str}(a:N[i]?=some x)(b:N[j]?=some x):i=j:=by
 obtain⟨e,e1⟩:=Mc.mp a;obtain⟨t,e2⟩:=Mc.mp b;exact(List.getElem_inj q).mp (e1.trans e2.symm)
variable{v:V}
def ky{M:Model}{A:Vv}{E:Vq->Vs->Prop}{x:Str}{Q:Unit->Vs->Prop}(I:P6 X f R H s)(hN:X.N.Nodup)(t:X.N[i]?=some x)(L:CM X.env.scope x)(r:Qd v u)
  (h:∀s',P6 X f (R.set i (some v)) H s'->(∃a,Heap.SameBut a s.heap s'.heap/\(a=X.env.locals\/X.env.cells.lookup x=some a))->Q () s') (hf:X.fn x=true\/X.env.scope.names.lookup x=some .local:=by first|exact .inl rfl|exact .inr rfl|assumption):wpAny M A (storeName X.env x u) Q E s:=by
 obtain⟨m,hn,hl⟩:=id I.loc;have ee:(X.env.scope.kind==.class||(X.env.scope.kind==.module&&X.env.locals != X.env.globals))=false:=by rw[I.ok.kind];rfl
 have Y:i<R.length:=by rw[I.len];exact(Mc.mp t).1
 have cne:=I.cne;have XA:∀{a:Vr}{h':Heap},(∃o,s.heap.get? a=some o/\H a=none)->Heap.SameBut a s.heap h'->Qt X.prog X.w H h':=λ{a h'}ha O b ob e=>by
  obtain⟨_,_,Xy⟩:=ha;refine(I.hok b ob e).stay (λc w' D q=>(O.2 c ?_).trans q) (λ_ q=>q) λ_ _ q=>q;rintro rfl;rcases D with rfl|D
  ·rw[Xy]at e;cases e
  ·rw[Xy]at D;cases D
 rcases L with G|G
 ·refine wpAny_storeName_local G hn (λh' WO O=>?_) ee;obtain⟨oL,_,_,ei,_⟩:=id hn;refine h _ ⟨I.ok,I.os,I.bare,⟨λb o e n J L=>?_,λb o e n J L=>?_,I.base.free,λb o e L=>?_,I.base.tups,I.base.frzs,I.base.tbls⟩,⟨_,WO,λj y v' e1 e2 B=>?_⟩,λy c e=>?_,I.free,I.freeC,λp hp=>?_,XA ⟨oL,ei,I.free⟩ O,by simpa using I.len⟩ ⟨_,O,.inl U⟩
  ·exact(O.2 b<|ME<|Ms (Mm e) I.ok.above).trans (I.base.keep b o e n J L)
  ·obtain⟨sl,e1⟩:=I.base.slot b o e n J L;exact⟨sl,(O.2 b<|ME<|Ms (Mm e) I.ok.above).trans e1⟩
  ·obtain⟨o',e1⟩:=I.base.there b o e L;exact⟨o',(O.2 b<|ME<|Ms (Mm e) I.ok.above).trans e1⟩
  ·by_cases Z:j=i
   ·subst Z;rw[t]at e1;cases e1;rw[S2 Y]at e2;cases e2;exact⟨u,r,.inl ⟨G,by simp⟩⟩
   ·rw[S9<|F_ Z]at e2;obtain⟨u',r',q⟩:=hl j y v' e1 e2 B;refine⟨u',r',?_⟩;rcases q with⟨k,e⟩|⟨k,c,e,z⟩
    ·refine .inl ⟨k,?_⟩;have:y≠x:=λe=>Z (mM hN e1<|e▸t);simp[this,e]
    ·exact .inr ⟨k,c,e,z.sameBut O<|cne y c e⟩
  ·obtain⟨w',z⟩:=I.cell y c e;exact⟨w',z.sameBut O<|cne y c e⟩
  ·obtain⟨e,n,ne,nf,d⟩:=I.pin p hp;exact⟨(O.2 p.1 ne).trans e,n,ne,nf,d⟩
 ·have Z0:X.fn x=true:=by
   rcases hf with z|z
   ·exact z
   ·rw[z]at G;cases G
  obtain⟨c,D⟩:=I.ok.has x (.inl G);obtain⟨w',z⟩:=I.cell x c D;refine wpAny_storeName_cell I.ok.kind G D z (λh' Z5 O=>?_);obtain⟨oc,et,ea⟩:=id z;refine h {s with heap:=h'} ⟨I.ok,I.os,I.bare,⟨λb o e n J L=>?_,λb o e n J L=>?_,I.base.free,λb o e L=>?_,I.base.tups,I.base.frzs,I.base.tbls⟩,⟨m,hn.sameBut O<|F_<|cne x c D,λj y v' e1 e2 B=>?_⟩,λy c' e=>?_,I.free,I.freeC,λp hp=>?_,XA ⟨oc,et,I.freeC x c D⟩ O,by simpa using I.len⟩ ⟨c,O,.inr D⟩
  ·exact(O.2 b<|ME<|Ms (Mm e)<|I.ok.cab x c Z0 D).trans (I.base.keep b o e n J L)
  ·obtain⟨sl,e1⟩:=I.base.slot b o e n J L;exact⟨sl,(O.2 b<|ME<|Ms (Mm e)<|I.ok.cab x c Z0 D).trans e1⟩
  ·obtain⟨o',e1⟩:=I.base.there b o e L;exact⟨o',(O.2 b<|ME<|Ms (Mm e)<|I.ok.cab x c Z0 D).trans e1⟩
  ·by_cases Z:j=i
   ·subst Z;rw[t]at e1;cases e1;rw[S2 Y]at e2;cases e2;exact⟨u,r,.inr ⟨.inl G,c,D,Z5⟩⟩
   ·rw[S9<|F_ Z]at e2;obtain⟨u',r',q⟩:=hl j y v' e1 e2 B;refine⟨u',r',?_⟩;rcases q with q|⟨k,c',e,z'⟩
    ·exact .inl q
    ·refine .inr ⟨k,c',e,z'.sameBut O ?_⟩;rintro rfl;exact Z (mM hN e1<|I.ok.inj _ _ _ e D▸t)
  ·by_cases XW:c'=c
   ·subst XW;exact⟨_,Z5⟩
   ·obtain⟨w2,z2⟩:=I.cell y c' e;exact⟨w2,z2.sameBut O XW⟩
  ·obtain⟨e,n,ne,nf,d⟩:=I.pin p hp;refine⟨(O.2 p.1 ?_).trans e,n,ne,nf,d⟩;intro q;rw[q,et]at e;have q':oc=p.2:=MN e;exact d w' (by rw[<-q'];exact ea)
def jA{M:Model}{A:Vv}{E:Vq->Vs->Prop}{x:Str}{Q:Unit->Vs->Prop}(I:P6 X f R H s)(z:X.N.Nodup)(D:X.N[i]?=some x)(L:CM X.env.scope x)(r:Qd v u)
  (h:∀e,P6 X f (R.set i (some v)) H e->Q () e) (O:X.fn x=true\/X.env.scope.names.lookup x=some .local:=by first|exact .inl rfl|exact .inr rfl|assumption):wpAny M A (storeName X.env x u) Q E s:=
 ky I z D L r (λe q _=>h e q) O
def P6.call'{s':Vs}(I:P6 X f R H s)(O:s'.os=s.os)(u:Un (mL X.stack) ch H C s.heap s'.heap)(hok:Qt X.prog X.w C s'.heap)(z:AllBare s'.gens)
  (q:∀b∈ch,(b∈X.ex\/X.s₀.heap.objs.size<=b)/\b≠X.env.locals/\(∀x c,X.env.cells.lookup x=some c->c≠b)/\∀p∈X.pn++f,p.1≠b):P6 X f R C s':=by
 obtain⟨h',g',d',t',D⟩:=s';have e:D=s.os:=O;subst e;exact I.call (g':=g') (t':=t') (d':=d') u hok z q
end
abbrev XK:=Vq->Option Vr->Hp->Prop
abbrev St:=List (Option V)
abbrev VK:=V->Hp->Prop
abbrev TE:=St->Hp->VK->Prop
abbrev TT:=St->Hp->(Bool->Hp->Prop)->Prop
abbrev TA:=St->Hp->(VA->Hp->Prop)->Prop
structure Qr where
 nx:St->Hp->Prop
 rt:VK
 bk:St->Hp->Prop:=λ_ _=>False
 ct:St->Hp->Prop:=λ_ _=>False
abbrev TS:=Qr->St->Hp->Prop
inductive EP(X:Cx)(e:List (Vr×Obj))(r:St)(Q:VK)(u:Vq)(i:Vs):Prop
 |mk(v t:_):P6 X e r t i->Qd v u->Q v t->EP X e r Q u i
def TP(X:Cx)(e:List (Vr×Obj))(i:St)(Q:Bool->Hp->Prop)(b:Bool)(t:Vs):Prop:=∃q,P6 X e i q t/\Q b q
inductive AP(X:Cx)(e:List (Vr×Obj))(r:St)(Q:VA->Hp->Prop)(us:List Vq)(i:Vs):Prop
 |mk(vs t:_):P6 X e r t i->Qb vs us->Q vs t->AP X e r Q us i
def SP(X:Cx)(e:List (Vr×Obj))(D:Qr)(f:Flow)(t:Vs):Prop:=
 match f with
 |.next=>∃q z,P6 X e q z t/\D.nx q z
 |.brk=>∃q z,P6 X e q z t/\D.bk q z
 |.cont=>∃q z,P6 X e q z t/\D.ct q z
 |.ret u=>∃v q z,P6 X e q z t/\Qd v u/\D.rt v z
structure PE(X:Cx)(e:Expr)(t:TE):Prop where
 run:∀(pins:List (Vr×Obj))(s:Vs)(σ:St)(H:Hp)(Q:VK),P6 X pins σ H s->t σ H Q->wpAny (model X.prog X.w) X.A (eval e X.env) (EP X pins σ Q) X.xe s
instance {X:Cx}{e:Expr}{t:TE}:CoeFun (PE X e t) λ_=>∀(i:List (Vr×Obj))(s:Vs)(r:St)(H:Hp)(Q:VK),P6 X i r H s->t r H Q->wpAny (model X.prog X.w) X.A (eval e X.env) (EP X i r Q) X.xe s:=⟨PE.run⟩
structure PT(X:Cx)(e:Expr)(t:TT):Prop where
 run:∀(pins:List (Vr×Obj))(s:Vs)(σ:St)(H:Hp)(Q:Bool->Hp->Prop),P6 X pins σ H s->t σ H Q->wpAny (model X.prog X.w) X.A (isTrue e X.env<|eval e X.env) (TP X pins σ Q) X.xe s
instance {X:Cx}{e:Expr}{t:TT}:CoeFun (PT X e t) λ_=>∀(i:List (Vr×Obj))(s:Vs)(r:St)(H:Hp)(Q:Bool->Hp->Prop),P6 X i r H s->t r H Q->wpAny (model X.prog X.w) X.A (isTrue e X.env<|eval e X.env) (TP X i r Q) X.xe s:=⟨PT.run⟩
structure PW(X:Cx)(e:Expr)(t:TT):Prop where
 run:∀(Wt:Sem Vq)(pins:List (Vr×Obj))(s:Vs)(σ:St)(H:Hp)(Q:Bool->Hp->Prop),P6 X pins σ H s->t σ H Q->wpAny (model X.prog X.w) X.A (isTrue e X.env Wt) (TP X pins σ Q) X.xe s
instance {X:Cx}{e:Expr}{t:TT}:CoeFun (PW X e t) λ_=>∀(q:Sem Vq)(i:List (Vr×Obj))(s:Vs)(r:St)(H:Hp)(Q:Bool->Hp->Prop),P6 X i r H s->t r H Q->wpAny (model X.prog X.w) X.A (isTrue e X.env q) (TP X i r Q) X.xe s:=⟨PW.run⟩
variable{e:Expr}{X:Cx}
def PW.pt{t:TT}(h:PW X e t):PT X e t:=⟨λi s r H Q I q=>h _ i s r H Q I q⟩
structure PA(X:Cx)(es:List Expr)(t:TA):Prop where
 run:∀(pos:Pos)(pins:List (Vr×Obj))(s:Vs)(σ:St)(H:Hp)(Q:VA->Hp->Prop),P6 X pins σ H s->t σ H Q->wpAny (model X.prog X.w) X.A (spliced<|backTo pos<|starEach es X.env) (AP X pins σ Q) X.xe s
instance {X:Cx}{q:List Expr}{t:TA}:CoeFun (PA X q t) λ_=>∀(r:Pos)(i:List (Vr×Obj))(s:Vs)(d:St)(H:Hp)(Q:VA->Hp->Prop),P6 X i d H s->t d H Q->wpAny (model X.prog X.w) X.A (spliced<|backTo r<|starEach q X.env) (AP X i d Q) X.xe s:=⟨PA.run⟩
structure PS(X:Cx)(st:Stmt)(t:TS):Prop where
 run:∀(pins:List (Vr×Obj))(s:Vs)(σ:St)(H:Hp)(D:Qr),P6 X pins σ H s->t D σ H->wpAny (model X.prog X.w) X.A (exec st X.env) (SP X pins D) X.xe s
instance {X:Cx}{st:Stmt}{t:TS}:CoeFun (PS X st t) λ_=>∀(i:List (Vr×Obj))(s:Vs)(r:St)(H:Hp)(D:Qr),P6 X i r H s->t D r H->wpAny (model X.prog X.w) X.A (exec st X.env) (SP X i D) X.xe s:=⟨PS.run⟩
structure Rb(X:Cx)(st:List Stmt)(t:TS):Prop where
 run:∀(pins:List (Vr×Obj))(s:Vs)(σ:St)(H:Hp)(D:Qr),P6 X pins σ H s->t D σ H->wpAny (model X.prog X.w) X.A (execs st X.env) (SP X pins D) X.xe s
instance {X:Cx}{st:List Stmt}{t:TS}:CoeFun (Rb X st t) λ_=>∀(i:List (Vr×Obj))(s:Vs)(r:St)(H:Hp)(D:Qr),P6 X i r H s->t D r H->wpAny (model X.prog X.w) X.A (execs st X.env) (SP X i D) X.xe s:=⟨Rb.run⟩
variable{s:Vs}{E:Vq->Vs->Prop}{A:Vv}{M:Model}
def bL{α:Type}{t:Sem α}{Q q:α->Vs->Prop}(h:wpAny M A t Q E s)(z:∀a s,Q a s->q a s):wpAny M A t q E s:=j_ h z λ_ _ x=>x
section
variable{X:Cx}
inductive kB(i:Nat)(f:St)(H:Hp)(Q:VK):Prop
 |mk(v:_):f[i]?=some (some v)->Q v H->kB i f H Q
def tC(v:V):TE:=λ_ H Q=>Q v H
def za{i:Nat}{x:Str}{p:Pos}(L:X.N[i]?=some x)(Z:HG X.env.scope x)(t:(x==("__debug__":Str))=false:=by decide)(D:(x==("__classdict__":Str))=false:=by decide):PE X (.Name x p) (kB i):=by
 refine⟨?_⟩;intro o s f H Q I h;obtain⟨v,e,h⟩:=h;obtain⟨m,J,Y⟩:=I.loc;obtain⟨u,r,l⟩:=Y i x v L e Z;have B':EP X o f Q u s:=⟨v,H,I,r,h⟩;rcases l with⟨q,G⟩|⟨q,c,O,z⟩
 ·exact wpAny_Name (wpAny_loadName_local I.ok.kind q J G B') t
 ·rcases q with q|q
  ·exact wpAny_Name (wpAny_loadName_cell I.ok.kind q O z B') t
  ·exact wpAny_Name (wpAny_loadName_free I.ok.kind q O z B' D) t
def af{i j p}:PE X (.Constant (.int i) j p) (tC<|.int i):=⟨λ_ _ _ H _ I h=>wpAny_Constant_int ⟨.int i,H,I.tok _,⟨_,U⟩,h⟩⟩
def gQ{b j p}:PE X (.Constant (.bool b) j p) (tC<|.bl b):=⟨λ_ _ _ H _ I h=>Constant_bool ⟨.bl b,H,I,U,h⟩⟩
def gY{j p}:PE X (.Constant .none j p) (tC .non):=⟨λ_ _ _ H _ I h=>Constant_none ⟨.non,H,I,U,h⟩⟩
def ah{x j p}:PE X (.Constant (.str x) j p) (tC<|.str x):=⟨λ_ _ _ H _ I h=>Calls.Constant_str ⟨.str x,H,I.tok _,⟨_,U⟩,h⟩⟩
def Gl(X:Cx)(x:Str):Prop:=X.env.kindOf x=some .globalImplicit
variable{Q:Vq->Vs->Prop}{f:St}{o:List (Vr×Obj)}
def fJ{E:Vq->Vs->Prop}{x:Str}{p:Pos}(I:P6 X o f H s)(q:Gl X x)(z:X.mg x=some u)(h:Q u s)
  (t:(x==("__debug__":Str))=false:=by decide):wpAny (model X.prog X.w) X.A (eval (.Name x p) X.env) Q E s:=
 Calls.Name_function_global I.ok.kind q (Calls.loadGlobal_global (by rw[I.ok.glob];exact I.mod.glob.keeps I.bk) z h) t
def i4{E:Vq->Vs->Prop}{x:Str}{p:Pos}(I:P6 X o f H s)(q:Gl X x)(z:X.mg x=none)(D:bootBuiltins x=some u)(h:Q u s)
  (O:x≠"__name__":=by decide) (r:(x==("__debug__":Str))=false:=by decide):wpAny (model X.prog X.w) X.A (eval (.Name x p) X.env) Q E s:=by
 obtain⟨L,t,i⟩:=I.mod.blt;exact Calls.Name_function_global I.ok.kind q (Calls.loadGlobal_builtin (by rw[I.ok.glob];exact I.mod.glob.keeps I.bk) z (by rw[I.ok.blt];exact t.keeps I.bk) ((i x O).trans D) h) r
variable{v:V}
def bf{x:Str}{p:Pos}(q:Gl X x)(z:X.mg x=some u)(r:Qd v u)(t:(x==("__debug__":Str))=false:=by decide):PE X (.Name x p) (tC v):=
 ⟨λ_ _ _ H _ I h=>fJ I q z ⟨v,H,I,r,h⟩ t⟩
def CP{x:Str}{p:Pos}(q:Gl X x)(z:X.mg x=none)(D:bootBuiltins x=some u)(r:Qd v u)(O:x≠"__name__":=by decide)(t:(x==("__debug__":Str))=false:=by decide):PE X (.Name x p) (tC v):=
 ⟨λ_ _ _ H _ I h=>i4 I q z D ⟨v,H,I,r,h⟩ O t⟩
variable{a b:Expr}{C R:TE}{p:Pos}
def PC(X:Cx)(O:CmpOp)(a b:Expr)(t:TE):Prop:=
 ∀(o:List (Vr×Obj))(s:Vs)(f:St)(H:Hp)(Q:VK),P6 X o f H s->t f H Q->
  wpAny (model X.prog X.w) X.A (eval a X.env) (λv q=>wpAny (model X.prog X.w) X.A (eval b X.env) (λu z=>wpAny (model X.prog X.w) X.A (compareOp O v u) (EP X o f Q) X.xe z) X.xe q) X.xe s
inductive Lu(Q:Bool->Hp->Prop)(x:V)(t:Hp):Prop
 |mk(c:_):x=.bl c->Q c t->Lu Q x t
def tB(t:TE):TT:=λf H Q=>t f H λx q=>Lu Q x q
variable{t:TE}
def uF{O:CmpOp}(h:PC X O a b t)(i:behindInMarks O b=false:=by first|exact nobehind _ zd zd|rfl):PT X (.Compare a [O] [b] p) (tB t):=by
 refine⟨?_⟩;intro o s f H Q I Y;refine wpAny_isTrue_Compare1 (bL (h o s f H _ I Y) λv Z i=>bL i λu m r=>bL r λc j z=>?_) i;obtain⟨x,D,L,J,G⟩:=z;obtain⟨d,rfl,q⟩:=G;cases J;exact m_ ⟨D,L,q⟩
def dq(h:PE X e t)(Y:∀O,isTrue e X.env O=(do let v <-O;standAt e.pos;holding [v] (truthy v)):=by intro _;rfl):PT X e (tB t):=by
 refine⟨?_⟩;intro o s f H Q I G;refine isTrue_plain (bL (h o s f H _ I G) λv i z=>?_) (Y _);obtain⟨x,D,L,Z,J⟩:=z;obtain⟨d,rfl,q⟩:=J;cases Z;exact m_ ⟨D,L,q⟩
variable{tA tB':TT}{j':List Expr}
def Ki(t u:TT):TT:=λf H Q=>t f H λc q=>if c=true then u f q Q else Q false q
def LM(t u:TT):TT:=λf H Q=>t f H λc q=>if c=true then Q true q else u f q Q
def Kj(t:TT):TT:=λf H Q=>t f H λc q=>Q (!c) q
def bG(q:PT X a tA):PW X (.BoolOp .And [a] p) tA:=by
 refine⟨?_⟩;intro O o s f H Q I h;refine isTrue_and (bL (q o s f H Q I h) λc z e=>?_);cases c with
 |true=>exact isTrue_and_nil e
 |false=>exact e
def dU(q:PT X a tA):PW X (.BoolOp .Or [a] p) tA:=by
 refine⟨?_⟩;intro O o s f H Q I h;refine isTrue_or (bL (q o s f H Q I h) λc z e=>?_);cases c with
 |false=>exact isTrue_or_nil e
 |true=>exact e
def bW(D:PT X a tA)(L:PW X (.BoolOp .And (b::j') p) tB'):PW X (.BoolOp .And (a::b::j') p) (Ki tA tB'):=by
 refine⟨?_⟩;intro G o s f H Q I h;refine isTrue_and (bL (D o s f H _ I h) λc Y⟨q,z,O⟩=>?_);cases c with
 |true=>exact L G o Y f q Q z O
 |false=>exact⟨q,z,O⟩
def fL(D:PT X a tA)(L:PW X (.BoolOp .Or (b::j') p) tB'):PW X (.BoolOp .Or (a::b::j') p) (LM tA tB'):=by
 refine⟨?_⟩;intro G o s f H Q I h;refine isTrue_or (bL (D o s f H _ I h) λc Y⟨q,z,O⟩=>?_);cases c with
 |true=>exact⟨q,z,O⟩
 |false=>exact L G o Y f q Q z O
def dW(z:PT X a tA):PT X (.UnaryOp .Not a p) (Kj tA):=by
 refine⟨?_⟩;intro o s f H Q I h;exact isTrue_not (z o s f H (λc q=>Q (!c) q) I h)
inductive zb(R:TE)(f:St)(Q:VK)(x:V)(i:Hp):Prop
 |mk(c:_):x=.bl c->(if c=true then R f i Q else Q (.bl false) i)->zb R f Q x i
def HW(C R:TE):TE:=λf H Q=>C f H λx q=>zb R f Q x q
inductive EK(R:TE)(f:St)(Q:VK)(x:V)(i:Hp):Prop
 |mk(c:_):x=.bl c->(if c=true then Q (.bl true) i else R f i Q)->EK R f Q x i
def Kk(C R:TE):TE:=λf H Q=>C f H λx q=>EK R f Q x q
inductive zc(Q:VK)(x:V)(i:Hp):Prop
 |mk(c:_):x=.bl c->Q (.bl<|!c) i->zc Q x i
def HX(C:TE):TE:=λf H Q=>C f H λx q=>zc Q x q
def fb{i}(h:PE X a t):PE X (.BoolOp i [a] p) t:=⟨λo s f H Q I q=>BoolOp_one<|h o s f H Q I q⟩
def fX(L:PE X a C)(Y:PE X (.BoolOp .And (b::j') p) R):PE X (.BoolOp .And (a::b::j') p) (HW C R):=by
 refine⟨?_⟩;intro o s f H Q I h;refine BoolOp_and (bL (L o s f H _ I h) λv J z=>?_);obtain⟨x,O,D,G,q⟩:=z;obtain⟨c,rfl,q⟩:=q;cases G;refine m_ ?_;cases c with
 |true=>exact Y o J f O Q D q
 |false=>exact⟨.bl false,O,D,U,q⟩
def HY(L:PE X a C)(Y:PE X (.BoolOp .Or (b::j') p) R):PE X (.BoolOp .Or (a::b::j') p) (Kk C R):=by
 refine⟨?_⟩;intro o s f H Q I h;refine BoolOp_or (bL (L o s f H _ I h) λv J z=>?_);obtain⟨x,O,D,G,q⟩:=z;obtain⟨c,rfl,q⟩:=q;cases G;refine m_ ?_;cases c with
 |false=>exact Y o J f O Q D q
 |true=>exact⟨.bl true,O,D,U,q⟩
def FN(L:PE X a C):PE X (.UnaryOp .Not a p) (HX C):=by
 refine⟨?_⟩;intro o s f H Q I h;refine UnaryOp_ (bL (L o s f H _ I h) λv G q=>?_);obtain⟨x,O,D,Y,z⟩:=q;obtain⟨c,rfl,z⟩:=z;cases Y;exact not_of (m_ ⟨.bl<|!c,O,D,U,z⟩)
def LO(t:TT)(C R:TE):TE:=λf H Q=>t f H λc q=>if c=true then C f q Q else R f q Q
def jB{c:Expr}(G:PT X c tA)(L:PE X a C)(Y:PE X b R):PE X (.IfExp c a b p) (LO tA C R):=by
 refine⟨?_⟩;intro o s f H Q I h;refine wpAny_IfExp (bL (G o s f H _ I h) λd D⟨q,z,O⟩=>?_);cases d with
 |true=>exact L o D f q Q z O
 |false=>exact Y o D f q Q z O
end
def P8(K:ZF)(H:Hp)(a:Vr)(xs:VA):Prop:=
 Rd H a (.lst xs) ∨
  ∃(o:Obj)(q:Array Vq)(n:Nat),K.lookup a=some o/\o.cls=.type "list"/\o.dict=none/\o.data=.seq q n/\q.size<=sizeLine/\Qb xs q.toList
def P5(K:ZF)(H:Hp)(a:Vr)(xs:VA):Prop:=
 Rd H a (.tup xs) ∨
  ∃(o:Obj)(q:Array Vq)(n:Nat),K.lookup a=some o/\o.cls=.type "tuple"/\o.data=.seq q n/\q.size<=sizeLine/\Qb xs q.toList
def Kl:Vq->Option V
 |.none=>some .non
 |.bool b=>some (.bl b)
 |.int i _=>some (.int i)
 |.str x _=>some (.str x)
 |.bytes b _=>some (.byt b)
 |.float b _=>some (.flt b)
 |.ref a=>some (.ref a)
 |.type n=>some (.ty n)
 |_=>none
def Qd.abs(r:Qd x u):Kl u=some x:=by
 cases x with
 |non=>cases r;rfl
 |bl _=>cases r;rfl
 |int _=>obtain⟨t,rfl⟩:=r;rfl
 |str _=>obtain⟨t,rfl⟩:=r;rfl
 |byt _=>obtain⟨t,rfl⟩:=r;rfl
 |flt _=>obtain⟨t,rfl⟩:=r;rfl
 |ref _=>cases r;rfl
 |ty _=>cases r;rfl
variable{y:V}
def Qd.inj(r:Qd x u)(q:Qd y u):x=y:=MN (r.abs.symm.trans q.abs)
def Qb.inj:∀{xs i:VA}{us:List Vq},Qb xs us->Qb i us->xs=i
 |_,_,_,.nil,.nil=>rfl
 |_,_,_,.cons r t,.cons q d=>by rw[r.inj q,Qb.inj t d]
section
variable{X:Cx}{t:List (Vr×Obj)}{f:St}{H:Hp}{s:Vs}{a:Vr}{i m:VA}
variable{K:ZF}
def P8.of(h:H a=some (.lst i)):P8 K H a i:=.inl (.inl h)
def P5.of(h:H a=some (.tup i)):P5 K H a i:=.inl (.inl h)
def P6.list(I:P6 X t f H s)(h:P8 X.K H a i):∃q:List Vq,Qb i q/\PlainL s.heap a q.toArray/\i.length<=sizeLine:=by
 rcases h with h|⟨o,q,n,D,O,d,L,Y,r⟩
 ·obtain⟨z,q,n,r,e⟩:=h.ok I.hok;exact⟨q,r,⟨_,n,e,U,U,U⟩,z⟩
 ·refine⟨q.toList,r,⟨o,n,I.kIn a o D,O,d,by simpa using L⟩,?_⟩;have e:=r.length;simp only[NE]at e;lia
def P6.tuple(I:P6 X t f H s)(h:P5 X.K H a i):∃q:List Vq,Qb i q/\IsTup s.heap a q.toArray/\i.length<=sizeLine:=by
 rcases h with h|⟨o,q,n,D,O,L,Y,r⟩
 ·obtain⟨z,q,r,p⟩:=h.ok I.hok;exact⟨q,r,p.up,z⟩
 ·refine⟨q.toList,r,⟨o,I.kIn a o D,O,n,by simpa using L⟩,?_⟩;have e:=r.length;simp only[NE]at e;lia
def P6.list_inj(I:P6 X t f H s)(h:P8 X.K H a i)(p:P8 X.K H a m):i=m:=by
 obtain⟨z,r,⟨o,n,e,_,_,d⟩,_⟩:=I.list h;obtain⟨its',O,⟨L,D,q,_,_,d'⟩,_⟩:=I.list p;rw[e]at q;cases q;rw[d]at d';injection d' with d1 _;have:z=its':=by simpa using e_ Array.toList d1
 subst this;exact r.inj O
def P6.tuple_inj(I:P6 X t f H s)(h:P5 X.K H a i)(p:P5 X.K H a m):i=m:=by
 obtain⟨z,r,⟨o,e,_,n,d⟩,_⟩:=I.tuple h;obtain⟨its',O,⟨L,q,_,D,d'⟩,_⟩:=I.tuple p;rw[e]at q;cases q;rw[d]at d';injection d' with d1 _;have:z=its':=by simpa using e_ Array.toList d1
 subst this;exact r.inj O
end
abbrev Cx.wish(X:Cx)(E:Vq->Vs->Prop):Cx:={X with xe:=E}
abbrev Cx.nox(X:Cx):Cx:=X.wish λ_ _=>False
def Cx.Ok.wish(ok:X.Ok)(E:Vq->Vs->Prop):(X.wish E).Ok:=
 ⟨ok.mod,ok.kind,ok.glob,ok.blt,ok.above,ok.inj,ok.has,ok.cab,ok.hd,ok.frames,ok.stk,ok.exf,ok.bs,ok.bsz,ok.noex,ok.exfs,ok.funs,ok.frf⟩
def Cx.Ok.unwish(ok:(X.wish E).Ok):X.Ok:=
 ⟨ok.mod,ok.kind,ok.glob,ok.blt,ok.above,ok.inj,ok.has,ok.cab,ok.hd,ok.frames,ok.stk,ok.exf,ok.bs,ok.bsz,ok.noex,ok.exfs,ok.funs,ok.frf⟩
section
variable{X:Cx}{e:List (Vr×Obj)}{o:St}{H:Hp}{s:Vs}{E:Vq->Vs->Prop}
def P6.wish(I:P6 X e o H s)(E:Vq->Vs->Prop):P6 (X.wish E) e o H s:=⟨I.ok.wish E,I.os,I.bare,I.base,I.loc,I.cell,I.free,I.freeC,I.pin,I.hok,I.len⟩
def P6.unwish(I:P6 (X.wish E) e o H s):P6 X e o H s:=⟨I.ok.unwish,I.os,I.bare,I.base,I.loc,I.cell,I.free,I.freeC,I.pin,I.hok,I.len⟩
def SP.unwish{D:Qr}{f:Flow}{t:Vs}(h:SP (X.wish E) e D f t):SP X e D f t:=by
 cases f with
 |next=>obtain⟨z,O,I,q⟩:=h;exact⟨z,O,I.unwish,q⟩
 |brk=>obtain⟨z,O,I,q⟩:=h;exact⟨z,O,I.unwish,q⟩
 |cont=>obtain⟨z,O,I,q⟩:=h;exact⟨z,O,I.unwish,q⟩
 |ret u=>obtain⟨v,z,O,I,r,q⟩:=h;exact⟨v,z,O,I.unwish,r,q⟩
def Rb.nox{st:List Stmt}{t:TS}(h:Rb X.nox st t):Rb X st t:=⟨λe s o H D I O=>
 j_ (h e s o H D (I.wish _) O) (λ_ _ q=>q.unwish) λ_ _ z=>False.elim z⟩
end
section
variable{X:Cx}{st:Stmt}{j':List Stmt}{t u:TS}{e:Expr}{i:TE}{o:Pos}
def HZ:TS:=λD r H=>D.nx r H
def uG(t u:TS):TS:=λD r H=>t {D with nx:=u D} r H
def ay:Rb X [] HZ:=⟨λ_ _ r H _ I h=>Tk ⟨r,H,I,h⟩⟩
def ae(d:PS X st t)(m:Rb X j' u):Rb X (st::j') (uG t u):=by
 refine⟨?_⟩;intro r s p H D I h;refine wpAny_execs_cons (bL (d r s p H {D with nx:=u D} I h) λf Y q=>?_);cases f with
 |next=>
  obtain⟨z,O,L,q⟩:=q;exact m r Y z O D L q
 |ret v=>exact q
 |brk=>exact q
 |cont=>exact q
def ai(d:PS X st t):Rb X [st] t:=by
 refine⟨?_⟩;intro r s m H D I h;refine wpAny_execs_cons (bL (d r s m H D I h) λf z q=>?_);cases f with
 |next=>exact Tk q
 |ret v=>exact q
 |brk=>exact q
 |cont=>exact q
def P6.quiet{r:List (Vr×Obj)}{d:St}(I:P6 X r d H s):interactive X.env=false:=by simp[interactive,I.ok.kind]
def EL(i:TE):TS:=λD r H=>i r H λ_ q=>D.nx r q
def aL(O:PE X e i)(L:swapsWith e none o.line X.env=pure false:=by rfl):PS X (.Expr e o) (EL i):=by
 refine⟨?_⟩;intro r s d H D I h;exact wpAny_Expr_any (bL (O r s d H _ I h) λv J⟨x,q,z,G,Y⟩=>⟨d,q,z,Y⟩) I.quiet L
def Ic(i:TE):TS:=λD r H=>i r H D.rt
def ao(O:PE X e i):PS X (.Return (some e) o) (Ic i):=by
 refine⟨?_⟩;intro r s d H D I h;exact wpAny_Return_some (bL (O r s d H _ I h) λv G⟨x,q,z,Y,L⟩=>⟨x,d,q,z,Y,L⟩)
def Ie(c:TT)(t u:TS):TS:=λD r H=>c r H λb q=>if b=true then t D r q else u D r q
def aP{c:Expr}{a b:List Stmt}{Y:TT}(Z:PT X c Y)(G:Rb X a t)(J:Rb X b u):PS X (.If c a b o) (Ie Y t u):=by
 refine⟨?_⟩;intro r s m H D I h;refine wpAny_If (bL (Z r s m H _ I h) λd L⟨q,z,O⟩=>?_);cases d with
 |true=>exact G r L m q D z O
 |false=>exact J r L m q D z O
def FP:TS:=λ_ _ _=>False
def dv:PS X st FP:=⟨λ_ _ _ _ _ _ h=>h.elim⟩
end
abbrev TG:=V->St->Hp->(St->Hp->Prop)->Prop
abbrev HH:=VA->St->Hp->(St->Hp->Prop)->Prop
def PG(X:Cx)(q:Expr)(t:TG):Prop:=
 ∀(i:List (Vr×Obj))(s:Vs)(r:St)(H:Hp)(v:V)(u:Vq)(Q:St->Hp->Prop),P6 X i r H s->Qd v u->t v r H Q->
  wpAny (model X.prog X.w) X.A (assign q X.env u) (λ_ d=>∃z O,P6 X i z O d/\Q z O) X.xe s
def Ig(X:Cx)(m:List Expr)(t:HH):Prop:=
 ∀(i:List (Vr×Obj))(s:Vs)(r:St)(H:Hp)(vs:VA)(us:List Vq)(Q:St->Hp->Prop),P6 X i r H s->Qb vs us->t vs r H Q->
  wpAny (model X.prog X.w) X.A (assignInOrder ((assignEach m X.env).map (·.2)) us) (λ_ d=>∃q z,P6 X i q z d/\Q q z) X.xe s
abbrev FQ:=V->V->V->Hp->(Hp->Prop)->Prop
def Ih(X:Cx)(t:FQ):Prop:=
 ∀(r:List (Vr×Obj))(s:Vs)(d:St)(H:Hp)(o i v:V)(O z u:Vq)(Q:Hp->Prop),P6 X r d H s->Qd o O->Qd i z->Qd v u->t o i v H Q->
  wpAny (model X.prog X.w) X.A (setItem O z u) (λ_ m=>∃q,P6 X r d q m/\Q q) X.xe s
abbrev Km:=V->V->Hp->VK->Prop
def Lv(X:Cx)(q:Operator)(t:Km):Prop:=
 ∀(i:List (Vr×Obj))(s:Vs)(r:St)(H:Hp)(x y:V)(v u:Vq)(Q:VK),P6 X i r H s->Qd x v->Qd y u->t x y H Q->
  wpAny (model X.prog X.w) X.A (inplaceOp q v u) (EP X i r Q) X.xe s
section
variable{X:Cx}{d:Pos}
def mO(i:Nat):TG:=λv t H Q=>Q (t.set i (some v)) H
variable{i:Nat}
def pU{x:Str}(z:X.N.Nodup)(D:X.N[i]?=some x)(L:CM X.env.scope x)(O:X.fn x=true\/X.env.scope.names.lookup x=some .local:=by first|exact .inl rfl|exact .inr rfl|assumption):PG X (.Name x d) (mO i):=by
 intro t s f H v u Q I r h;exact T_ (jA I z D L r (λm q=>⟨_,H,q,h⟩) O)
def gZ{i:Nat}{x:Str}(q:X.N.Nodup)(O:X.N[i]?=some x:=by rfl)(I:CM X.env.scope x:=by exact Or.inl U)(z:X.fn x=true\/X.env.scope.names.lookup x=some .local:=by first|exact .inl rfl|exact .inr rfl|assumption):PG X (.Name x d) (mO i):=pU q O I z
def Ko:HH:=λvs t H Q=>vs=[]/\Q t H
inductive EM(t:TG)(u:HH)(vs:VA)(f:St)(H:Hp)(Q:St->Hp->Prop):Prop
 |mk(v r:_):vs=v::r->(t v f H λm p=>u r m p Q)->EM t u vs f H Q
def bi:Ig X [] Ko:=by
 intro t s m H vs us Q I r h;obtain⟨e,h⟩:=h;subst e;cases r;exact assignInOrder_nil ⟨m,H,I,h⟩
variable{R:List Expr}
def aq{t:TG}{u:HH}(f:PG X e t)(p:Ig X R u)
  (D:(assignEach (e::R) X.env).map (·.2)=assign e X.env::(assignEach R X.env).map (·.2):=by rfl):Ig X (e::R) (EM t u):=by
 intro m s j H vs us Q I r h;obtain⟨v,J,e1,h⟩:=h;subst e1;cases r with
 |cons r Y=>
  rw[D];refine assignInOrder_cons (bL (f m s j H _ _ _ I r h) λ_ G⟨q,z,O,L⟩=>?_);exact p m G q z _ _ Q O Y L
inductive FT(K:ZF)(n:Nat)(t:HH)(v:V)(r:St)(H:Hp)(Q:St->Hp->Prop):Prop
 |mk(a xs:_):v=.ref a->P5 K H a xs->xs.length=n->t xs r H Q->FT K n t v r H Q
def cA{k:Nat}{t:HH}{n:Nat}(L:X.calm=true)(h:Ig X R t)
  (G:(assignEach R X.env).length=n:=by rfl) (D:(assignEach R X.env).findIdx? (·.1)=none:=by rfl):PG X (.Tuple R k d) (FT X.K n t):=by
 intro m s f H v u Q I r q;obtain⟨a,xs,e1,J,Y,q⟩:=q;subst e1;cases r;obtain⟨f',z,Z,N⟩:=I.tuple J;refine assign_Tuple_tuple (I.ok.hd L) Z (by simp[G,<-Y,z.length]) D λp j=>?_;have O:P6 X m f H {s with heap:=p}:=I.kept (t':=s.toks) λb o e=>j b o (ME<|Mm e) e;exact h m _ f H xs _ Q O (by simpa using z) q
def Kp(to I:TE)(t:FQ):TG:=λv r H Q=>to r H λo q=>I r q λi z=>t o i v z λO=>Q r O
def ze{o i:Expr}{to D:TE}{t:FQ}(N:PE X o to)(j:PE X i D)(C:Ih X t)
  (p:∀v,assign (.Subscript o i d) X.env v=(do
   let z <-holding [v] (eval o X.env)
   let O <-holding [v,z] (eval i X.env)
   standAt d
   holding [v,z,O] (setItem z O v)
   release [v,z,O] []):=by intro _;rfl):PG X (.Subscript o i d) (Kp to D t):=by
 intro m s f H v u Q I r h;rw[p];refine a_ (p_<|bL (N m s f H _ I h) λz s1 q=>?_);obtain⟨x,L,J,r1,B⟩:=q;refine a_ (p_<|bL (j m s1 f L _ J B) λO s2 q=>?_);obtain⟨y,Y,Z,r2,q2⟩:=q;refine a_ (o_<|a_<|p_<|bL (C m s2 f Y x y v z O u _ Z r1 r2 r q2) λ_ s3⟨G,I3,q3⟩=>?_);exact wpAny_release ⟨f,G,I3,q3⟩
def CQ(p:TE)(g:TG):TS:=λD t H=>p t H λx q=>g x t q D.nx
variable{p:TE}
def gB{z e:Expr}{g:TG}(G:PE X e p)(J:PG X z g)(Z:swapsWithSole [z] e d.line X.env=pure false:=by rfl)(hw:swappedStores [z] e X.env=pure none:=by rfl)
  (m:(assignEach [z] X.env).map (·.2)=[assign z X.env]:=by rfl):PS X (.Assign [z] e d) (CQ p g):=by
 refine⟨?_⟩;intro t s r H D I h;refine wpAny_Assign_stores (bL (G t s r H _ I h) λv N O=>?_) Z hw;obtain⟨x,L,Y,j,f⟩:=O;rw[m];exact bL (J t N r L x v _ Y j f) λ_ C q=>q
def i6{x:Str}{z:Pos}(G:X.N.Nodup)(r:X.N[i]?=some x)(f:CM X.env.scope x)(J:PE X e p)(m:swapsWith e (some<|.Name x z) d.line X.env=pure false:=by rfl)(Z:X.fn x=true\/X.env.scope.names.lookup x=some .local:=by first|exact .inl rfl|exact .inr rfl|assumption):
  PS X (.Assign [.Name x z] e d) (CQ p<|mO i):=by
 refine⟨?_⟩;intro t s B H D I h;refine wpAny_Assign_Name (bL (J t s B H _ I h) λv s1 q=>?_) m;obtain⟨y,O,L,C,j⟩:=q;exact jA L G r f C (λs2 Y=>⟨_,O,Y,j⟩) Z
def Mb{i:Nat}{x:Str}{e:Expr}{p:TE}{q:Pos}(z:X.N.Nodup)(O:PE X e p)(D:X.N[i]?=some x:=by rfl)(Y:CM X.env.scope x:=by exact Or.inl U)(L:swapsWith e (some<|.Name x q) d.line X.env=pure false:=by rfl)(I:X.fn x=true\/X.env.scope.names.lookup x=some .local:=by first|exact .inl rfl|exact .inr rfl|assumption):PS X (.Assign [.Name x q] e d) (CQ p<|mO i):=i6 z D Y O L I
inductive Ii(i:Nat)(p:TE)(ti:Km)(D:Qr)(t:St)(H:Hp):Prop
 |mk(x:_):t[i]?=some (some x)->(p t H λy r=>ti x y r λz m=>D.nx (t.set i (some z)) m)->Ii i p ti D t H
def uH{x:Str}{J:Operator}{ti:Km}{VI:Pos}(hN:X.N.Nodup)(f:X.N[i]?=some x)(G:CM X.env.scope x)(he:PE X e p)(ho:Lv X J ti)(hf:X.fn x=true\/X.env.scope.names.lookup x=some .local:=by first|exact .inl rfl|exact .inr rfl|assumption):
  PS X (.AugAssign (.Name x VI) J e d) (Ii i p ti):=by
 refine⟨?_⟩;intro t s j H D I h;obtain⟨v,e1,h⟩:=h;obtain⟨m,hn,hl⟩:=I.loc;have Z:HG X.env.scope x:=by rcases G with k|k;exact .inl k;exact .inr (.inl k)
 obtain⟨u,r,l⟩:=hl i x v f e1 Z;refine wpAny_AugAssign_Name ?_;have go:wpAny (model X.prog X.w) X.A (eval e X.env) (λw L=>wpAny (model X.prog X.w) X.A (inplaceOp J u w) (λr Y=>wpAny (model X.prog X.w) X.A (storeName X.env x r) (λ_=>SP X t D .next) X.xe Y) X.xe L) X.xe s:=by
  refine bL (he t s j H _ I h) λw s1 O=>?_;obtain⟨y,C,I1,r1,q1⟩:=O;refine bL (ho t s1 j C v y u w _ I1 r r1 q1) λz s2 O=>?_;obtain⟨zv,B,I2,r2,q2⟩:=O;exact jA I2 hN f G r2 (λs3 I3=>⟨_,B,I3,q2⟩) hf
 rcases l with⟨q,hm⟩|⟨q,c,hc,VY⟩
 ·exact wpAny_loadName_local I.ok.kind q hn hm go
 ·rcases q with q|q
  ·exact wpAny_loadName_cell I.ok.kind q hc VY go
  ·rcases G with k|k
   ·have:X.env.scope.names.lookup x=some .free:=q;rw[k]at this;cases this
   ·have:X.env.scope.names.lookup x=some .free:=q;rw[k]at this;cases this
inductive Lw(f:Int->Int->Int)(x:V)(y:V)(H:Hp)(Q:VK):Prop
 |mk(i j:_):x=.int i->y=.int j->Q (.int<|f i j) H->Lw f x y H Q
def uI:Lv X .Add (Lw λi j=>i+j):=by
 intro r s f H x y v u Q I z O h;obtain⟨i,j,e1,e2,q⟩:=h;subst e1;subst e2;obtain⟨t,rfl⟩:=z;obtain⟨m,rfl⟩:=O;exact iadd_int ⟨.int _,H,I.tok _,⟨_,U⟩,q⟩
end
section
variable{X:Cx}{e:Pos}
inductive zf(c:TT)(f:TS)(D:Qr)(t:St)(H:Hp):Prop
 | mk (W:Nat->St->Hp->Prop):(∃m,W m t H)->(∀m t H,W m t H->
 c t H λb d=>if b=true then ∃N:St->Hp->Prop,(∀i r,N i r->∃m',m'<m/\W m' i r)/\f {D with nx:=N,ct:=N,bk:=D.nx} t d else D.nx t d)->zf c f D t H
def gk{c:Expr}{i:List Stmt}{tc:TT}{R:TS}(j:PassesOwn (model X.prog X.w) X.A X.env X.xe)(hc:PT X c tc)(B:Rb X i R):PS X (.While c i [] e) (zf tc R):=by
 refine⟨?_⟩;intro t s σ H D I h;obtain⟨W,⟨m0,w0⟩,V_⟩:=h;refine wpAny_While (codeAny_whileLoop (λn s'=>∃L r,P6 X t L r s'/\W n L r) ?_ m0 ⟨σ,H,I,w0⟩);intro n s1 z;obtain⟨z,d,C,w1⟩:=z;refine B_ j (bL (hc t s1 z d _ C<|V_ n z d w1) λb s2⟨m,p,Y⟩=>?_);cases b with
 |true=>
  obtain⟨N,hN,Y⟩:=Y;rw[g_ rfl];refine B_ j (bL (B t s2 z m _ p Y) λf s3 G=>?_);cases f with
  |next=>
   obtain⟨q,O,J,n3⟩:=G;obtain⟨m',Z,w3⟩:=hN q O n3;exact⟨m',Z,q,O,J,w3⟩
  |cont=>
   obtain⟨q,O,J,n3⟩:=G;obtain⟨m',Z,w3⟩:=hN q O n3;exact⟨m',Z,q,O,J,w3⟩
  |brk=>exact G
  |ret v=>exact G
 |false=>
  rw[f_ MA];exact Tk ⟨z,m,p,Y⟩
end
structure It where
 go:Nat->Hp->Prop
 yld:Nat->Hp->V->Hp->Prop
 stop:Nat->Hp->Prop
def QO(X:Cx)(t:List (Vr×Obj))(H:Hp)(b:Vr):Prop:=
 H b=none/\b≠X.env.locals/\b∉X.fs/\(b∈X.ex\/X.s₀.heap.objs.size<=b)/\(∀x c,X.env.cells.lookup x=some c->c≠b)/\∀p∈X.pn++t,p.1≠b
variable{σ:St}{pins:List (Vr×Obj)}
def P6.fpOk{H D:Hp}(I:P6 X pins σ H s)(O:s.heap.objs.size<=b)(L:D b=none):QO X pins D b:=by
 refine⟨L,N5<|Ms I.lt O,I.nofs O,.inr<|MP I.sz O,λx c e z=>?_,λp Y z=>?_⟩
 ·obtain⟨v,q⟩:=I.cell x c e;exact absurd (Ms q.lt<|by rw[z];exact O) (M7 _)
 ·exact absurd (Ms (Mm (I.pin p Y).1)<|by rw[z];exact O) (M7 _)
structure oJ(P:Vt)(w:Vu)(K:ZF)(tg:Expr)(J:It)(fp:List Vr)(it:Vr)(tn:Nat->Heap->Prop):Prop where
 mem:it∈fp
 obj:∀i h,tn i h->∀b∈fp,∃o,h.get? b=some o/\∀v,o.data≠.cell v
 keep:∀i h h',tn i h->(∀b∈fp,∀o,h.get? b=some o->h'.get? b=some o)->tn i h'
 item:∀(X:Cx),X.prog=P->X.w=w->X.K=K->X.calm=true->∀(i:Nat)(pins:List (Vr×Obj))(s:Vs)(σ:St)(H:Hp)(E:Vq->Vs->Prop),P6 X pins σ H s->(∀b∈fp,QO X pins H b)->tn i s.heap->J.go i H->
  wpAny (model P w) X.A (pyNext<|.ref it) (λr s1=>∃u,r=some u /\
   wpAny (model P w) X.A (letOwnedTupleGo tg (.ref it) u) (λ_ s2=>∃x H',P6 X pins σ H' s2/\Qd x u/\J.yld i H x H'/\tn (i+1) s2.heap/\∀b∈fp,H' b=none) E s1) E s
 done:∀(X:Cx),X.prog=P->X.w=w->X.K=K->X.calm=true->∀(i:Nat)(pins:List (Vr×Obj))(s:Vs)(σ:St)(H:Hp)(E:Vq->Vs->Prop),P6 X pins σ H s->(∀b∈fp,QO X pins H b)->tn i s.heap->J.stop i H->
  wpAny (model P w) X.A (pyNext<|.ref it) (λr s1=>r=none/\P6 X pins σ H s1) E s
 self:∀(A:Vv)(i:Nat)(s:Vs)(Q:Vq->Vs->Prop)(E:Vq->Vs->Prop),tn i s.heap->Q (.ref it) s->wpAny (model P w) A (pyIter<|.ref it) Q E s
abbrev TI:=St->Hp->(It->Hp->Prop)->Prop
inductive JZ(X:Cx)(pins:List (Vr×Obj))(σ:St)(d:Expr)(R:It->Hp->Prop)(itv:Vq)(i:Vs):Prop
 |mk(r:Vr)(fp:List Vr)(tn:Nat->Heap->Prop)(J:It)(t:Hp):itv=.ref r->P6 X pins σ t i->oJ X.prog X.w X.K d J fp r tn->tn 0 i.heap->(∀b∈fp,QO X pins t b)->R J t->JZ X pins σ d R itv i
structure PI(X:Cx)(tg iter:Expr)(wi:TI):Prop where
 run:∀(pins:List (Vr×Obj))(s:Vs)(σ:St)(H:Hp)(R:It->Hp->Prop),P6 X pins σ H s->wi σ H R->
  wpAny (model X.prog X.w) X.A (eval iter X.env) (λv s1=>wpAny (model X.prog X.w) X.A (pyIter v) (JZ X pins σ tg R) X.xe s1) X.xe s
instance {X:Cx}{q t:Expr}{z:TI}:CoeFun (PI X q t z) λ_=>∀(pins:List (Vr×Obj))(s:Vs)(σ:St)(H:Hp)(R:It->Hp->Prop),P6 X pins σ H s->z σ H R->
  wpAny (model X.prog X.w) X.A (eval t X.env) (λv O=>wpAny (model X.prog X.w) X.A (pyIter v) (JZ X pins σ q R) X.xe O) X.xe s:=⟨PI.run⟩
def r9{M:Model}{A:Vv}{E:Vq->Vs->Prop}{z:Expr}{t:Vr}{u:Vq}{o:Obj}{n:String}{vs:Array Vq}{Q:Unit->Vs->Prop}(D:s.heap.get? t=some o)(O:o.cls=.type n)(i:o.data=.fields vs)
  (I:["enumerate","zip","dict_itemiterator","dict_reverseitemiterator","odict_iterator","itertools.zip_longest","itertools.pairwise"].contains n=false) (q:Q () s):wpAny M A (letOwnedTupleGo z (.ref t) u) Q E s:=by
 unfold letOwnedTupleGo;cases z<;>first
  |exact d_ q
  | (cases u<;>first
    |exact d_ q
    | (refine a_ (wpAny_load D ?_)
       rw[O,i];show wpAny M A (if(["enumerate","zip","dict_itemiterator","dict_reverseitemiterator","odict_iterator","itertools.zip_longest","itertools.pairwise"].contains n&&vs[0]?==some (rawInt _))=true then _ else _) Q E s;rw[f_<|by intro h;rw[I,Bool.false_and]at h;cases h];exact d_ q))
def EQ(K:ZF)(a:Vr):It:=
 ⟨λi H=>∃xs x,P8 K H a xs/\xs[i]?=some x,λi H x q=>q=H/\∀xs,P8 K H a xs->xs[i]?=some x,λi H=>∃xs,P8 K H a xs/\xs.length<=i⟩
def FU(K:ZF)(a:Vr):It:=
 ⟨λi H=>∃xs x,P5 K H a xs/\xs[i]?=some x,λi H x q=>q=H/\∀xs,P5 K H a xs->xs[i]?=some x,λi H=>∃xs,P5 K H a xs/\xs.length<=i⟩
def FV(lo:Int)(n:Nat):It:=⟨λi _=>i<n,λi H x q=>q=H/\x=.int (lo+i),λi _=>n<=i⟩
variable{tg:Expr}{K:ZF}
def yg(a t:Vr):oJ P w K tg (EQ K a) [t] t (λi h=>h.IsListIter t a i) where
 mem:=by simp
 obj:=λi h st b q=>by
  have e:b=t:=by simpa using q
  subst e;obtain⟨o,e,c,d⟩:=st;exact⟨o,e,λv z=>by rw[d]at z;cases z⟩
 keep:=λi h r st k=>st.at λo e=>k t (by simp) o e
 item:=by
  intro X hP hw hK j i pins s σ H E I O st m;subst hP hw hK;obtain⟨xs,x,D,f⟩:=m;obtain⟨f',rv,p,B⟩:=I.list D;obtain⟨u,R,ru⟩:=rv.get f;obtain⟨L,Y,f2,G,J,Z⟩:=O t (by simp);refine wpAny_pyNext_list_item st p.isList (x:=u) (by simpa using R) λr Xk sb=>?_;have N:P6 X pins σ H {s with heap:=r}:=I.turned (t':=s.toks) (λb o q e=>(sb.2 b q).trans e) L Y G J Z;obtain⟨o,e,c,d⟩:=id Xk;exact⟨u,U,r9 (s:={s with heap:=r}) e c d zd ⟨x,H,N,ru,⟨U,λys C=>by rw[I.list_inj C D];exact f⟩,Xk,λb q=>(O b q).1⟩⟩
 done:=by
  intro X hP hw hK j i pins s σ H E I O st m;subst hP hw hK;obtain⟨xs,D,f⟩:=m;obtain⟨f',rv,p,B⟩:=I.list D;obtain⟨L,Y,f2,G,J,Z⟩:=O t (by simp);have hl:=rv.length;exact wpAny_pyNext_list_end (I.ok.hd j) st p.isList (by simp;lia) λr eb=>⟨U,I.turned (t':=s.toks) (λb o q e=>eb b o q e) L Y G J Z⟩
 self:=λ_ _ _ _ _ st h=>wpAny_pyIter_listiter st h
def uJ(a t:Vr):oJ P w K tg (FU K a) [t] t (λi h=>h.IsTupleIter t a i) where
 mem:=by simp
 obj:=λi h st b q=>by
  have e:b=t:=by simpa using q
  subst e;obtain⟨o,e,c,d⟩:=st;exact⟨o,e,λv z=>by rw[d]at z;cases z⟩
 keep:=λi h r st k=>st.at λo e=>k t (by simp) o e
 item:=by
  intro X hP hw hK j i pins s σ H E I O st m;subst hP hw hK;obtain⟨xs,x,D,f⟩:=m;obtain⟨L,rv,p,B⟩:=I.tuple D;obtain⟨u,R,ru⟩:=rv.get f;obtain⟨Y,G,f2,J,Z,f5⟩:=O t (by simp);refine wpAny_pyNext_tuple_item st (show s.heap.IsTuple a L.toArray from p) (x:=u) (by simpa using R) λr Xk sb=>?_;have N:P6 X pins σ H {s with heap:=r}:=I.turned (t':=s.toks) (λb o q e=>(sb.2 b q).trans e) Y G J Z f5;obtain⟨o,e,c,d⟩:=id Xk;exact⟨u,U,r9 (s:={s with heap:=r}) e c d zd ⟨x,H,N,ru,⟨U,λys C=>by rw[I.tuple_inj C D];exact f⟩,Xk,λb q=>(O b q).1⟩⟩
 done:=by
  intro X hP hw hK j i pins s σ H E I O st m;subst hP hw hK;obtain⟨xs,D,f⟩:=m;obtain⟨L,rv,p,B⟩:=I.tuple D;obtain⟨Y,G,f2,J,Z,f5⟩:=O t (by simp);have hl:=rv.length;exact wpAny_pyNext_tuple_end (I.ok.hd j) st (show s.heap.IsTuple a L.toArray from p) (by simp;lia) λr eb=>⟨U,I.turned (t':=s.toks) (λb o q e=>eb b o q e) Y G J Z f5⟩
 self:=λ_ _ _ _ _ st h=>wpAny_pyIter_tupleiter st h
def uK(r:Vr)(lo:Int)(n:Nat):oJ P w K tg (FV lo n) [r] r (λi h=>IsRangeIter h r (lo+(i:Nat)*1) ((n:Int)-(i:Nat)) 1) where
 mem:=by simp
 obj:=λi h st b q=>by
  have e:b=r:=by simpa using q
  subst e;exact⟨_,st,λv z=>by
   have z':Data.fields _=Data.cell v:=z;cases z'⟩
 keep:=λi h d st k=>k r (by simp) _ st
 item:=by
  intro X hP hw Z m i pins s σ H E I O st f;subst hP hw Z;obtain⟨D,L,f2,Y,G,J⟩:=O r (by simp);have W:=Walks.range (prog:=X.prog) (w:=X.w) (I.ok.hd m) r lo 1 n;refine W.item i s _ _ f st λv d tk j Xk N=>?_;obtain⟨t,rfl⟩:=j;have p:P6 X pins σ H {s with heap:=d,toks:=tk}:=I.turned (λb o q e=>N b o (by simpa using q) e) D L Y G J;refine⟨_,U,r9 (s:={s with heap:=d,toks:=tk}) (n:="range_iterator") Xk U U zd ⟨.int<|lo+i,H,p,⟨t,?_⟩,⟨U,U⟩,Xk,λb q=>(O b q).1⟩⟩;rw[Int.mul_one]
 done:=by
  intro X hP hw Z m i pins s σ H E I O st f;subst hP hw Z;obtain⟨D,L,f2,Y,G,J⟩:=O r (by simp);exact wpAny_pyNext_range_end (I.ok.hd m) st (by have:n<=i:=f;lia) λd eb=>⟨U,I.turned (t':=s.toks) (λb o q e=>eb b o q e) D L Y G J⟩
 self:=λ_ _ _ _ _ st h=>wpAny_pyIter_rangeiter st h
section
variable{X:Cx}{C:Expr}
inductive zg(K:ZF)(R:It->Hp->Prop)(x:V)(t:Hp):Prop
 |mk(a:_):x=.ref a->(∃xs,P8 K t a xs)->R (EQ K a) t->zg K R x t
def ET(K:ZF)(tl:TE):TI:=λσ H R=>tl σ H λx q=>zg K R x q
inductive EU(K:ZF)(R:It->Hp->Prop)(x:V)(t:Hp):Prop
 |mk(a:_):x=.ref a->(∃xs,P5 K t a xs)->R (FU K a) t->EU K R x t
def Ij(K:ZF)(tl:TE):TI:=λσ H R=>tl σ H λx q=>EU K R x q
def cW{l:Expr}{tl:TE}(G:PE X l tl):PI X C l (ET X.K tl):=by
 refine⟨?_⟩;intro pins s σ H R I h;refine bL (G pins s σ H _ I h) λv O D=>?_;obtain⟨x,L,z,t,Z⟩:=D;obtain⟨a,e,⟨xs,J⟩,q⟩:=Z;subst e;cases t;obtain⟨f',rv,p,i⟩:=z.list J;refine wpAny_pyIter_list p.isList ?_;refine⟨O.heap.objs.size,[O.heap.objs.size],_,_,L,U,z.kept (t':=O.toks) λb o e=>Mh _ e,yg a _,⟨_,MB _ U,U,U⟩,λb Y=>?_,q⟩;have e:b=O.heap.objs.size:=by simpa using Y
 subst e;exact z.fpOk (Ml _) (z.hok.fresh<|Ml _)
def hI{l:Expr}{tl:TE}(J:PE X l tl):PI X C l (Ij X.K tl):=by
 refine⟨?_⟩;intro pins s σ H R I h;refine bL (J pins s σ H _ I h) λv z D=>?_;obtain⟨x,L,O,i,t⟩:=D;obtain⟨a,e,⟨xs,Z⟩,q⟩:=t;subst e;cases i;obtain⟨Y,rv,p,r⟩:=O.tuple Z;refine TM (show z.heap.IsTuple a Y.toArray from p) ?_;refine⟨z.heap.objs.size,[z.heap.objs.size],_,_,L,U,O.kept (t':=z.toks) λb o e=>Mh _ e,uJ a _,⟨_,MB _ U,U,U⟩,λb G=>?_,q⟩;have e:b=z.heap.objs.size:=by simpa using G
 subst e;exact O.fpOk (Ml _) (O.hok.fresh<|Ml _)
def zh{R:It->Hp->Prop}{E:Vq->Vs->Prop}{lo z:Int}{t u v:Tok}{D:Nat}(I:P6 X pins σ H s)(i:-(2^62)<=lo)(r:lo<2^62)(L:-(2^62)<=z)(Y:z<2^62)
  (q:R (FV lo (z-lo).toNat) H):wpAny (model X.prog X.w) X.A (pyIter<|.ref s.heap.objs.size) (JZ X pins σ C R) E {s with heap:=s.heap.push {cls:=.type "range",data:=.fields #[.int lo t,.int z u,.int 1 v]},toks:=D}:=by
 refine wpAny_pyIter_range (IsRange.new ..) (small_one i r L Y) ?_;have O:P6 X pins σ H {s with heap:=s.heap.push {cls:=.type "range",data:=.fields #[.int lo t,.int z u,.int 1 v]},toks:=D}:=I.kept λb o e=>Mh _ e;refine⟨(s.heap.push {cls:=.type "range",data:=.fields #[.int lo t,.int z u,.int 1 v]}).objs.size,[(s.heap.push {cls:=.type "range",data:=.fields #[.int lo t,.int z u,.int 1 v]}).objs.size],_,_,H,U,
  O.kept (t':=D) λb o e=>Mh _ e,uK _ lo (z-lo).toNat,?_,λb G=>?_,q⟩
 ·have e1:lo+((0:Nat):Int)*1=lo:=by simp
  have e2:(((z-lo).toNat:Nat):Int)-((0:Nat):Int)=Builtin.Range.rangeSize lo z 1:=by rw[rangeSize_one];split<;>lia
  show IsRangeIter _ _ (lo+((0:Nat):Int)*1) ((((z-lo).toNat:Nat):Int)-((0:Nat):Int)) 1;rw[e1,e2];exact MB _ rfl
 ·have e:b=(s.heap.push {cls:=.type "range",data:=.fields #[.int lo t,.int z u,.int 1 v]}).objs.size:=by simpa using G
  subst e;exact O.fpOk (Ml _) (O.hok.fresh<|Ml _)
inductive zi(R:It->Hp->Prop)(vs:VA)(t:Hp):Prop
 |mk(j:Int):vs=[.int j]->-(2^62)<=j->j<2^62->R (FV 0 j.toNat) t->zi R vs t
def Ik(z:TA):TI:=λσ H R=>z σ H λvs q=>zi R vs q
def fm{a:Expr}{D:TA}{p i:Pos}(G:Gl X "range")(J:X.mg "range"=none)(Y:PA X [a] D)(Z:starEach [a] X.env=[(false,eval a X.env)]:=by rfl):PI X C (.Call (.Name "range" p) [a] [] i) (Ik D):=by
 refine⟨?_⟩;intro pins s σ H R I h;refine Call_ (i4 I G J boot_range<|Nq (bL (Y i pins s σ H _ I h) λus v z=>?_) Z U);obtain⟨vs,f,L,m,O⟩:=z;obtain⟨j,e,O,d,q⟩:=O;subst e;cases m with
 |cons r rr=>
  cases rr;obtain⟨t,rfl⟩:=r;exact call_range_1 (zh L zo zo O d<|by simpa using q)
def Kq(Z:TI)(g:TG)(G:TS):TS:=λD σ H=>Z σ H λJ L=>∃W:Nat->Nat->St->Hp->Prop,(∃m,W 0 m σ L)/\∀i m σ H,W i m σ H->
 (J.stop i H/\D.nx σ H)\/(J.go i H/\∃N:St->Hp->Prop,(∀z q,N z q->∃I,I<m/\W (i+1) I z q)/\∀x q,J.yld i H x q->g x σ q λO Y=>G {D with nx:=N,ct:=N,bk:=D.nx} O Y)
def cS(q:List Vr)(h:Heap):List (Vr×Obj):=q.filterMap λb=>(h.get? b).map λo=>(b,o)
variable{fp:List Vr}
def fq{o:Obj}(q:b∈fp)(e:h.get? b=some o):(b,o)∈cS fp h:=List.mem_filterMap.mpr ⟨b,q,by rw[e];rfl⟩
def iA{p:Vr×Obj}(I:p∈cS fp h):p.1∈fp/\h.get? p.1=some p.2:=by
 obtain⟨b,O,e⟩:=List.mem_filterMap.mp I;cases q:h.get? b with
 |none=>rw[q]at e;cases e
 |some o=>
  rw[q]at e;have z:(b,o)=p:=MN e;subst z;exact⟨O,q⟩
def P6.pinned(I:P6 X pins σ H s)(G:∀b∈fp,QO X pins H b)(J:∀b∈fp,∃o,s.heap.get? b=some o/\∀v,o.data≠.cell v):P6 X (pins++cS fp s.heap) σ H s:=
 I.pins_of λp Z=>(MC.mp Z).elim (λz=>I.pin p<|Mj _ z) λz=>by
  obtain⟨O,e⟩:=iA z;obtain⟨D,L,Y,_⟩:=G p.1 O;obtain⟨o,q,d⟩:=J p.1 O;rw[e]at q;cases q;exact⟨e,D,L,Y,d⟩
def P6.unpinned{pins pl:List (Vr×Obj)}(I:P6 X (pins++pl) σ H s):P6 X pins σ H s:=I.pins_of λp q=>I.pin p (Mj _<|MO _ q)
def cU{t:Expr}{j:List Stmt}{wi:TI}{g:TG}{tb:TS}{pos:Pos}(R:PassesOwn (model X.prog X.w) X.A X.env X.xe)(hc:X.calm=true)(hi:PI X C t wi)(hg:PG X C g)(L:Rb X j tb)
  (hs:∀x,foldedSetIterable t X.env x=pure x:=by intro _;rfl):PS X (.For C t j [] pos) (Kq wi g tb):=by
 refine⟨?_⟩;intro pins s σ H D I h;refine wpAny_For (bL (hi pins s σ H _ I h) λv s1 h1=>bL h1 λen s2 h2=>?_) hs;obtain⟨it,fp,tn,J,H2,e,I2,T,YO,f2,W,⟨m0,w0⟩,V_⟩:=h2;subst e;have Y:∀{p:Hp},(∀b∈fp,p b=none)->∀b∈fp,QO X pins p b:=λhn b L=>⟨hn b L,(f2 b L).2⟩;refine codeAny_forLoop_any (λn s'=>∃i G p,P6 X pins G p s'/\tn i s'.heap/\(∀b∈fp,p b=none)/\W i n G p) ?_ m0 ⟨0,σ,H2,I2,YO,λb L=>(f2 b L).1,w0⟩;intro n s3 z;obtain⟨i,Z,B,I3,et,ee,w3⟩:=z;rcases V_ i n Z B w3 with⟨stop,qn⟩|⟨go,N,hN,step⟩
 ·refine B_ R (bL (T.done X U U U hc i pins s3 Z B X.xe I3 (Y ee) et stop) λr s4⟨hr,I4⟩=>?_);subst hr;exact Tk ⟨Z,B,I4,qn⟩
 ·refine B_ R (bL (T.item X U U U hc i pins s3 Z B X.xe I3 (Y ee) et go) λr s4⟨u,hr,h4⟩=>?_);subst hr;refine B_ R (bL h4 λ_ s5 ei=>?_);obtain⟨x,H5,I5,r5,y5,XQ,YI⟩:=ei;have ea:=I5.pinned (Y YI) (T.obj _ _ XQ);refine B_ R (bL (hg _ s5 Z H5 x u _ ea r5<|step x H5 y5) λ_ s6⟨σ6,H6,I6,q6⟩=>?_);refine B_ R (bL (L _ s6 σ6 H6 _ I6 q6) λf s7 q7=>?_);have again:∀{q:St}{z:Hp},P6 X (pins++cS fp s5.heap) q z s7->N q z->∃m,m<n/\∃i G p,P6 X pins G p s7/\tn i s7.heap/\(∀b∈fp,p b=none)/\W i m G p:=λ{q z}O n7=>by
   obtain⟨m',hm,w7⟩:=hN q z n7;refine⟨m',hm,i+1,q,z,O.unpinned,T.keep _ _ _ XQ λb L o e=>(O.pin (b,o)<|Mj _<|Mj _<|fq L e).1,λb L=>?_,w7⟩;obtain⟨o,e,d⟩:=T.obj _ _ XQ b L;exact(O.pin (b,o)<|Mj _<|Mj _<|fq L e).2.1
  cases f with
  |next=>obtain⟨q,z,O,n7⟩:=q7;exact again O n7
  |cont=>obtain⟨q,z,O,n7⟩:=q7;exact again O n7
  |brk=>obtain⟨q,z,O,q7⟩:=q7;exact⟨q,z,O.unpinned,q7⟩
  |ret v=>obtain⟨x7,q,z,O,r7,q7⟩:=q7;exact⟨x7,q,z,O.unpinned,r7,q7⟩
end
def jC{g:TG}{J:TS}{D:Qr}(Pv:Nat->St->Hp->Prop)(Z:Pv 0 σ H)(d:∀i σ H,i<=xs.length->Pv i σ H->P8 K H a xs)
  (f:∀i x σ H,xs[i]?=some x->Pv i σ H->g x σ H λI L=>J {D with nx:=Pv (i+1),ct:=Pv (i+1),bk:=D.nx} I L) (t:∀σ H,Pv xs.length σ H->D.nx σ H) :
  ∃W:Nat->Nat->St->Hp->Prop,(∃m,W 0 m σ H)/\∀i m σ H,W i m σ H->
   ((EQ K a).stop i H/\D.nx σ H)\/((EQ K a).go i H/\∃N:St->Hp->Prop,(∀O z,N O z->∃G,G<m/\W (i+1) G O z)/\∀x z,(EQ K a).yld i H x z->g x σ z λI L=>J {D with nx:=N,ct:=N,bk:=D.nx} I L):=by
 refine⟨λi m σ H=>m=xs.length-i/\i<=xs.length/\Pv i σ H,⟨xs.length,by simp,MR _,Z⟩,?_⟩;rintro i m σ H ⟨rfl,r,p⟩;have q:=d i σ H r p;by_cases Y:i<xs.length
 ·refine .inr ⟨⟨xs,xs[i],q,by simp[Y]⟩,Pv<|i+1,λO z p'=>⟨xs.length-(i+1),zo,U,Y,p'⟩,λx z y=>?_⟩;obtain⟨e,y⟩:=y;subst e;exact f i x σ _ (y xs q) p
 ·have e:i=xs.length:=by lia
  subst e;exact .inl ⟨⟨xs,q,Ml _⟩,t σ H p⟩
def lU{g:TG}{J:TS}{D:Qr}(Pv:Nat->St->Hp->Prop)(Z:Pv 0 σ H)(d:∀i σ H,i<=xs.length->Pv i σ H->P5 K H a xs)
  (f:∀i x σ H,xs[i]?=some x->Pv i σ H->g x σ H λI L=>J {D with nx:=Pv (i+1),ct:=Pv (i+1),bk:=D.nx} I L) (t:∀σ H,Pv xs.length σ H->D.nx σ H) :
  ∃W:Nat->Nat->St->Hp->Prop,(∃m,W 0 m σ H)/\∀i m σ H,W i m σ H->
   ((FU K a).stop i H/\D.nx σ H)\/((FU K a).go i H/\∃N:St->Hp->Prop,(∀O z,N O z->∃G,G<m/\W (i+1) G O z)/\∀x z,(FU K a).yld i H x z->g x σ z λI L=>J {D with nx:=N,ct:=N,bk:=D.nx} I L):=by
 refine⟨λi m σ H=>m=xs.length-i/\i<=xs.length/\Pv i σ H,⟨xs.length,by simp,MR _,Z⟩,?_⟩;rintro i m σ H ⟨rfl,r,p⟩;have q:=d i σ H r p;by_cases Y:i<xs.length
 ·refine .inr ⟨⟨xs,xs[i],q,by simp[Y]⟩,Pv<|i+1,λO z p'=>⟨xs.length-(i+1),zo,U,Y,p'⟩,λx z y=>?_⟩;obtain⟨e,y⟩:=y;subst e;exact f i x σ _ (y xs q) p
 ·have e:i=xs.length:=by lia
  subst e;exact .inl ⟨⟨xs,q,Ml _⟩,t σ H p⟩
def gm{lo:Int}{n:Nat}{g:TG}{G:TS}{D:Qr}(Pv:Nat->St->Hp->Prop)(J:Pv 0 σ H)
  (Z:∀i σ H,i<n->Pv i σ H->g (.int<|lo+i) σ H λO I=>G {D with nx:=Pv (i+1),ct:=Pv (i+1),bk:=D.nx} O I) (t:∀σ H,Pv n σ H->D.nx σ H) :
  ∃W:Nat->Nat->St->Hp->Prop,(∃m,W 0 m σ H)/\∀i m σ H,W i m σ H->
   ((FV lo n).stop i H/\D.nx σ H)\/((FV lo n).go i H/\∃N:St->Hp->Prop,(∀z q,N z q->∃Y,Y<m/\W (i+1) Y z q)/\∀x q,(FV lo n).yld i H x q->g x σ q λO I=>G {D with nx:=N,ct:=N,bk:=D.nx} O I):=by
 refine⟨λi m σ H=>m=n-i/\i<=n/\Pv i σ H,⟨n,by simp,MR _,J⟩,?_⟩;rintro i m σ H ⟨rfl,r,p⟩;by_cases L:i<n
 ·refine .inr ⟨L,Pv<|i+1,λz q p'=>⟨n-(i+1),zo,U,L,p'⟩,λx q y=>?_⟩;obtain⟨e,y⟩:=y;subst e y;exact Z i σ _ L p
 ·have e:i=n:=by lia
  subst e;exact .inl ⟨Ml _,t σ H p⟩
abbrev R2:=V->V->Hp->VK->Prop
def fM(X:Cx)(f:Vq->Vq->Sem Vq)(r:R2):Prop:=
 ∀(pins:List (Vr×Obj))(s:Vs)(σ:St)(H:Hp)(x y:V)(v u:Vq)(Q:VK),P6 X pins σ H s->Qd x v->Qd y u->r x y H Q->
  wpAny (model X.prog X.w) X.A (f v u) (EP X pins σ Q) X.xe s
def eD(X:Cx)(f:Vq)(r:VA->Hp->VK->Prop):Prop:=
 ∀(pins:List (Vr×Obj))(s:Vs)(σ:St)(H:Hp)(xs:VA)(us:List Vq)(Q:VK),P6 X pins σ H s->Qb xs us->r xs H Q->
  wpAny (model X.prog X.w) X.A (call f us) (EP X pins σ Q) X.xe s
def EV(r:R2)(O I:TE):TE:=λσ H Q=>O σ H λx q=>I σ q λy z=>r x y z Q
inductive rI(C:Int->Int->Prop)(g:Int->Int->V)(x:V)(y:V)(H:Hp)(Q:VK):Prop
 |mk(i j:_):x=.int i->y=.int j->C i j->Q (g i j) H->rI C g x y H Q
inductive CS(g:Int->Int->V)(x:V)(y:V)(H:Hp)(Q:VK):Prop
 |mk(i j:_):x=.int i->y=.int j->Q (g i j) H->CS g x y H Q
section
variable{X:Cx}{a b c:Expr}{e o tc:TE}{d:Pos}
def FW(Z:PE X a e)(t:PE X b o){R:V->V->Hp->Prop}(I:P6 X pins σ H s)
  (h:e σ H λx Y=>o σ Y λy z=>R x y z) {Q:Vq->Vs->Prop} {f:Vq->Vq->Sem Vq}
  (i:∀v u L x y z,P6 X pins σ z L->Qd x v->Qd y u->R x y z->wpAny (model X.prog X.w) X.A (f v u) Q X.xe L) :
  wpAny (model X.prog X.w) X.A (eval a X.env) (λv O=>wpAny (model X.prog X.w) X.A (eval b X.env) (λu D=>wpAny (model X.prog X.w) X.A (f v u) Q X.xe D) X.xe O) X.xe s:=by
 refine bL (Z pins s σ H _ I h) λv N q=>?_;obtain⟨x,Y,G,p,r⟩:=q;refine bL (t pins N σ Y _ G r) λu L q=>?_;obtain⟨y,z,J,j,m⟩:=q;exact i v u L x y z J p j m
def az{z:Operator}{r:R2}(G:fM X (binaryOp z) r)(L:PE X a e)(Y:PE X b o):PE X (.BinOp a z b d) (EV r e o):=by
 refine⟨?_⟩;intro pins s σ H Q I h;exact wpAny_BinOp (FW L Y I h λv u t x y O D J Z q=>G pins t σ O x y v u Q D J Z q)
def HI{f:Vq->Vq->Sem Vq}{C:Int->Int->Prop}{g:Int->Int->Int}
  (rule:∀(i j:Int)(t u:Tok)(s:Vs)(Q:Vq->Vs->Prop)(E:Vq->Vs->Prop),C i j->Q (.int (g i j) s.toks) {s with toks:=s.toks+1}->wpAny (model X.prog X.w) X.A (f (.int i t)<|.int j u) Q E s) :
  fM X f (rI C λi j=>.int<|g i j):=by
 intro pins s σ H x y v u Q I O D h;obtain⟨i,j,rfl,rfl,z,q⟩:=h;obtain⟨t,rfl⟩:=O;obtain⟨r,rfl⟩:=D;exact rule i j t r s _ _ z ⟨.int<|g i j,H,I.tok _,⟨_,U⟩,q⟩
def Il{f:Vq->Vq->Sem Vq}{g:Int->Int->Int}
  (rule:∀(i j:Int)(t u:Tok)(s:Vs)(Q:Vq->Vs->Prop)(E:Vq->Vs->Prop),Q (.int (g i j) s.toks) {s with toks:=s.toks+1}->wpAny (model X.prog X.w) X.A (f (.int i t)<|.int j u) Q E s) :
  fM X f (CS λi j=>.int<|g i j):=by
 intro pins s σ H x y v u Q I z O h;obtain⟨i,j,rfl,rfl,q⟩:=h;obtain⟨t,rfl⟩:=z;obtain⟨r,rfl⟩:=O;exact rule i j t r s _ _ ⟨.int<|g i j,H,I.tok _,⟨_,U⟩,q⟩
def CU{f:Vq->Vq->Sem Vq}{g:Int->Int->Bool}
  (rule:∀(i j:Int)(t u:Tok)(s:Vs)(Q:Vq->Vs->Prop)(E:Vq->Vs->Prop),Q (.bool<|g i j) s->wpAny (model X.prog X.w) X.A (f (.int i t)<|.int j u) Q E s) :
  fM X f (CS λi j=>.bl<|g i j):=by
 intro pins s σ H x y v u Q I z O h;obtain⟨i,j,rfl,rfl,q⟩:=h;obtain⟨t,rfl⟩:=z;obtain⟨r,rfl⟩:=O;exact rule i j t r s _ _ ⟨.bl<|g i j,H,I,U,q⟩
def Kr(i j:Int):Prop:=0<j/\j<1073741824
def Im(i j:Int):Prop:=0<=j/\j<=1000000/\i.natAbs<2^64
def SH(i j:Int):Prop:=(-(2^64)<i/\i<2^64)\/(-(2^64)<j/\j<2^64)
def SH.ok{i j:Int}(h:SH i j):IntMulOk i j:=by
 rcases h with⟨t,r⟩|⟨t,r⟩
 ·exact .of_left (intBits_le_64 t r)
 ·exact .of_right (intBits_le_64 t r)
def bM:fM X (binaryOp .Add) (CS λi j=>.int<|i+j):=Il λ_ _ _ _ _ _ _ q=>add_int q
def kD:fM X (binaryOp .Sub) (CS λi j=>.int<|i-j):=Il λ_ _ _ _ _ _ _ q=>sub_int q
def gC:fM X (binaryOp .Mult) (rI SH λi j=>.int<|i*j):=HI λ_ _ _ _ _ _ _ z q=>mul_int q z.ok
def pV:fM X (binaryOp .FloorDiv) (rI Kr λi j=>.int<|i / j):=HI λi j _ _ _ _ _ z q=>by
 have t:(0:Int)<j:=z.1;have r:j<1073741824:=z.2;exact floordiv_int zo (by rw[T0 i zo];exact q) (.inl<|PyProof.noPylong_small zo)
def ft:fM X (binaryOp .Mod) (rI (λ_ j=>0<j) λi j=>.int<|i%j):=HI λi j _ _ _ _ _ z q=>by
 have t:(0:Int)<j:=z;exact mod_int' zo (by rw[Int.fmod_eq_emod_of_nonneg i zo];exact q)
def FY:fM X (binaryOp .Pow) (rI Im λi j=>.int<|i^j.toNat):=HI λ_ _ _ _ _ _ _ z q=>pow_int_small z.1 z.2.1 z.2.2 q
def pW:fM X (binaryOp .LShift) (rI Im λi j=>.int<|i*2^j.toNat):=HI λ_ _ _ _ _ _ _ z q=>lshift_int_small z.1 z.2.1 z.2.2 q
end
def zj:V->V->Bool
 |.non,.non=>true|.non,.int _=>true|.int _,.non=>true|.non,.bl _=>true|.bl _,.non=>true|.non,.str _=>true|.str _,.non=>true
 |.int _,.int _=>true|.bl _,.bl _=>true|.str _,.str _=>true|.byt _,.byt _=>true
 |.int _,.str _=>true|.str _,.int _=>true|.bl _,.str _=>true|.str _,.bl _=>true
 |_,_=>false
def Ly:R2:=λx y H Q=>zj x y=true/\Q (.bl<|decide (x=y)) H
def LP:R2:=λx y H Q=>zj x y=true/\Q (.bl<|!decide (x=y)) H
def wI{i j:Int}:decide (V.int i=V.int j)=(i==j):=by
 rw[No];simp
def zm{i j:Bool}:decide (V.bl i=V.bl j)=(i==j):=by
 rw[No];simp
def wJ{i j:Str}:decide (V.str i=V.str j)=(i==j):=by
 rw[No];simp
def wK{i j:Array UInt8}:decide (V.byt i=V.byt j)=(i.toList==j.toList):=by
 rw[No];cases i;cases j;simp
section
variable{X:Cx}{a b c:Expr}{m f tc:TE}{p:Pos}
def bz{Q:VK}{k z:Bool}(I:P6 X pins σ H s)(q:Q (.bl k) H)(e:k=z):EP X pins σ Q (.bool z) s:=by
 subst e;exact⟨.bl k,H,I,U,q⟩
def aR:fM X (compareOp .Eq) Ly:=by
 intro pins s σ H x y v u Q I D z h;obtain⟨O,q⟩:=h;cases x with
 |non=>
  cases D;cases y with
  |non=>cases z;exact PySem.EqNone.eq_none_none (bz I q<|by simp)
  |bl j=>cases z;exact PySem.EqNone.eq_none_bool (bz I q<|by simp)
  |int j=>obtain⟨r,rfl⟩:=z;exact PySem.EqNone.eq_none_int (bz I q<|by simp)
  |str j=>obtain⟨r,rfl⟩:=z;exact PySem.EqNone.eq_none_str (bz I q<|by simp)
  |_=>exact absurd (show false=true from O) MA
 |bl i=>
  cases D;cases y with
  |non=>cases z;exact PySem.EqNone.eq_bool_none (bz I q<|by simp)
  |bl j=>cases z;exact eq_bool (bz I q zm)
  |str j=>obtain⟨r,rfl⟩:=z;exact PySem.EqMixed.eq_bool_str (bz I q<|by simp)
  |_=>exact absurd (show false=true from O) MA
 |int i=>
  obtain⟨t,rfl⟩:=D;cases y with
  |non=>cases z;exact PySem.EqNone.eq_int_none (bz I q<|by simp)
  |int j=>obtain⟨r,rfl⟩:=z;exact eq_int (bz I q wI)
  |str j=>obtain⟨r,rfl⟩:=z;exact PySem.EqMixed.eq_int_str (bz I q<|by simp)
  |_=>exact absurd (show false=true from O) MA
 |str i=>
  obtain⟨t,rfl⟩:=D;cases y with
  |non=>cases z;exact PySem.EqNone.eq_str_none (bz I q<|by simp)
  |bl j=>cases z;exact PySem.EqMixed.eq_str_bool (bz I q<|by simp)
  |int j=>obtain⟨r,rfl⟩:=z;exact PySem.EqMixed.eq_str_int (bz I q<|by simp)
  |str j=>obtain⟨r,rfl⟩:=z;exact eq_str (bz I q wJ)
  |_=>exact absurd (show false=true from O) MA
 |byt i=>
  obtain⟨t,rfl⟩:=D;cases y with
  |byt j=>obtain⟨r,rfl⟩:=z;exact PySem.W.eq_bytes (bz I q wK)
  |_=>exact absurd (show false=true from O) MA
 |_=>cases y<;>exact absurd (show false=true from O) MA
def mP:fM X (compareOp .NotEq) LP:=by
 intro pins s σ H x y v u Q I D z h;obtain⟨O,q⟩:=h;cases x with
 |non=>
  cases D;cases y with
  |non=>cases z;exact PySem.EqNone.ne_none_none (bz I q<|by simp)
  |bl j=>cases z;exact PySem.EqNone.ne_none_bool (bz I q<|by simp)
  |int j=>obtain⟨r,rfl⟩:=z;exact PySem.EqNone.ne_none_int (bz I q<|by simp)
  |str j=>obtain⟨r,rfl⟩:=z;exact PySem.EqNone.ne_none_str (bz I q<|by simp)
  |_=>exact absurd (show false=true from O) MA
 |bl i=>
  cases D;cases y with
  |non=>cases z;exact PySem.EqNone.ne_bool_none (bz I q<|by simp)
  |bl j=>cases z;exact ne_bool (bz I q<|e_ not zm)
  |str j=>obtain⟨r,rfl⟩:=z;exact PySem.EqMixed.ne_bool_str (bz I q<|by simp)
  |_=>exact absurd (show false=true from O) MA
 |int i=>
  obtain⟨t,rfl⟩:=D;cases y with
  |non=>cases z;exact PySem.EqNone.ne_int_none (bz I q<|by simp)
  |int j=>obtain⟨r,rfl⟩:=z;exact ne_int (bz I q<|e_ not wI)
  |str j=>obtain⟨r,rfl⟩:=z;exact PySem.EqMixed.ne_int_str (bz I q<|by simp)
  |_=>exact absurd (show false=true from O) MA
 |str i=>
  obtain⟨t,rfl⟩:=D;cases y with
  |non=>cases z;exact PySem.EqNone.ne_str_none (bz I q<|by simp)
  |bl j=>cases z;exact PySem.EqMixed.ne_str_bool (bz I q<|by simp)
  |int j=>obtain⟨r,rfl⟩:=z;exact PySem.EqMixed.ne_str_int (bz I q<|by simp)
  |str j=>obtain⟨r,rfl⟩:=z;exact ne_str (bz I q<|e_ not wJ)
  |_=>exact absurd (show false=true from O) MA
 |byt i=>
  obtain⟨t,rfl⟩:=D;cases y with
  |byt j=>obtain⟨r,rfl⟩:=z;exact PySem.W.ne_bytes (bz I q<|e_ not wK)
  |_=>exact absurd (show false=true from O) MA
 |_=>cases y<;>exact absurd (show false=true from O) MA
def eR:fM X (compareOp .Lt) (CS λi j=>.bl<|decide (i<j)):=CU λ_ _ _ _ _ _ _ q=>lt_int q
def jD:fM X (compareOp .LtE) (CS λi j=>.bl<|decide (i<=j)):=CU λ_ _ _ _ _ _ _ q=>le_int q
def sf:fM X (compareOp .Gt) (CS λi j=>.bl<|decide (j<i)):=CU λ_ _ _ _ _ _ _ q=>gt_int q
def Io:fM X (compareOp .GtE) (CS λi j=>.bl<|decide (j<=i)):=CU λ_ _ _ _ _ _ _ q=>ge_int q
def gp:fM X (compareOp .In) (λx y H Q=>∃i j,x=.str i/\y=.str j/\Q (.bl<|!(Builtin.Str.occurrences j i 0 j.length 1).isEmpty) H):=by
 intro pins s σ H x y v u Q I z O h;obtain⟨i,j,rfl,rfl,q⟩:=h;obtain⟨t,rfl⟩:=z;obtain⟨r,rfl⟩:=O;exact in_str (bz I q U)
def pX:fM X (compareOp .NotIn) (λx y H Q=>∃i j,x=.str i/\y=.str j/\Q (.bl<|!(!(Builtin.Str.occurrences j i 0 j.length 1).isEmpty)) H):=by
 intro pins s σ H x y v u Q I z O h;obtain⟨i,j,rfl,rfl,q⟩:=h;obtain⟨t,rfl⟩:=z;obtain⟨r,rfl⟩:=O;exact notIn_str (bz I q U)
variable{o:CmpOp}
def pY(b:Expr)(h:o≠.In:=by decide)(t:o≠.NotIn:=by decide):behindInMarks o b=false:=by
 have e1:(o==CmpOp.In)=false:=by cases o<;>first|rfl|exact absurd U h
 have e2:(o==CmpOp.NotIn)=false:=by cases o<;>first|rfl|exact absurd U t
 cases b<;>simp[behindInMarks,e1,e2]
def fO{r:R2}(G:fM X (compareOp o) r)(D:PE X a m)(L:PE X b f)(Y:behindInMarks o b=false:=by first|exact pY _|rfl):PE X (.Compare a [o] [b] p) (EV r m f):=by
 refine⟨?_⟩;intro pins s σ H Q I h;exact wpAny_Compare1 (FW D L I h λv u t x y z O J Z q=>G pins t σ z x y v u Q O J Z q) Y
inductive zn(Q:Bool->Hp->Prop)(x:V)(t:Hp):Prop
 |mk(k:_):x=.bl k->Q k t->zn Q x t
def zp(t:TE):TT:=λσ H Q=>t σ H λx q=>zn Q x q
def cy{r:R2}(i:fM X (compareOp o) r)(J:PE X a m)(Z:PE X b f)(t:behindInMarks o b=false:=by first|exact pY _|rfl):PT X (.Compare a [o] [b] p) (zp<|EV r m f):=by
 refine⟨?_⟩;intro pins s σ H Q I h;refine wpAny_isTrue_Compare1 (bL (J pins s σ H _ I h) λv C⟨x,q,L,N,d⟩=>bL (Z pins C σ q _ L d) λu B⟨y,O,Y,R,j⟩=>
  bL (i pins B σ O x y v u _ Y N R j) λc s3⟨z,D,G,r3,k,e,q3⟩=>?_) t
 subst e;cases r3;exact m_ ⟨D,G,q3⟩
inductive wL(r':R2)(tc:TE)(σ:St)(Q:VK)(y:V)(z:V)(t:Hp):Prop
 |mk(k:_):z=.bl k->(if k=true then tc σ t λw' H4=>r' y w' H4 Q else Q (.bl false) t)->wL r' tc σ Q y z t
def zq(r D:R2)(m f tc:TE):TE:=λσ H Q=>m σ H λx q=>f σ q λy O=>r x y O λz I=>wL D tc σ Q y z I
def mQ{o q:CmpOp}{r Y:R2}(B:fM X (compareOp o) r)(Xp:fM X (compareOp q) Y)(j:PE X a m)(N:PE X b f)(R:PE X c tc)
  (C:lastMarks [o,q] [b,c]=false:=by with_unfolding_all rfl):PE X (.Compare a [o,q] [b,c] p) (zq r Y m f tc):=by
 refine⟨?_⟩;intro pins s σ H Q I h;refine Compare_chain (bL (j pins s σ H _ I h) λv s1⟨x,J,t,r1,q1⟩=>chain_link (bL (N pins s1 σ J _ t q1) λu s2⟨y,Z,i,G,q2⟩=>
  bL (B pins s2 σ Z x y v u _ i r1 G q2) λd s3⟨z,O,D,r3,k,e,L⟩=>?_)) C
 subst e;cases r3;refine m_ ?_;cases k with
 |false=>exact ite_ff ⟨.bl false,O,D,U,L⟩
 |true=>exact ite_tt (chain_last<|bL (R pins s3 σ O _ D L) λw' s4⟨z',H4,I4,r4,q4⟩=>Xp pins s4 σ H4 y z' u w' Q I4 G r4 q4)
def sh{o q:CmpOp}{r G:R2}(ho:fM X (compareOp o) r)(Xp:fM X (compareOp q) G)(R:PE X a m)(C:PE X b f)(B:PE X c tc)
  (hm:lastMarks [o,q] [b,c]=false:=by with_unfolding_all rfl):PT X (.Compare a [o,q] [b,c] p) (zp<|zq r G m f tc):=by
 refine⟨?_⟩;intro pins s σ H Q I h;refine isTrue_chain (bL (R pins s σ H _ I h) λv s1⟨x,Z,i,r1,q1⟩=>test_link (bL (C pins s1 σ Z _ i q1) λu s2⟨y,t,j,J,q2⟩=>
  bL (ho pins s2 σ t x y v u _ j r1 J q2) λd s3⟨z,D,L,r3,k,e,Y⟩=>?_)) hm
 subst e;cases r3;refine m_ ?_;cases k with
 |false=>
  obtain⟨k',N,q'⟩:=Y;cases N;exact ite_ff ⟨D,L,q'⟩
 |true=>
  refine ite_tt (test_last<|bL (B pins s3 σ D _ L Y) λw' s4⟨z',H4,I4,r4,q4⟩=>bL (Xp pins s4 σ H4 y z' u w' _ I4 J r4 q4) λd' s5 O=>?_);obtain⟨z2,H5,I5,r5,k2,e2,q5⟩:=O;subst e2;cases r5;exact m_ ⟨H5,I5,q5⟩
def kE:(sizeLine:Nat)<2^63:=by rw[SC];decide
def aH:fM X (binaryOp .Add) (λx y H Q=>∃i j,x=.str i/\y=.str j/\i.length+j.length<=sizeLine/\Q (.str<|i++j) H):=by
 intro pins s σ H x y v u Q I O D h;obtain⟨i,j,rfl,rfl,z,q⟩:=h;obtain⟨t,rfl⟩:=O;obtain⟨r,rfl⟩:=D;exact add_str (λr L=>⟨.str<|i++j,H,I.tok _,⟨_,U⟩,q⟩) z
def hZ(r:Qb [x] us):∃u,us=[u]/\Qd x u:=by
 cases r with
 |cons q z=>cases z;exact⟨_,U,q⟩
def zr(r:Qb [x,y] us):∃u q,us=[u,q]/\Qd x u/\Qd y q:=by
 cases r with
 |cons z O=>
  cases O with
  |cons I D=>cases D;exact⟨_,_,U,z,I⟩
def oV(O:X.calm=true):eD X (.builtin "max") (λxs H Q=>∃i j,xs=[.int i,.int j]/\Q (.int<|if j>i then j else i) H):=by
 intro pins s σ H xs us Q I r h;obtain⟨i,j,rfl,q⟩:=h;obtain⟨u,L,rfl,⟨t,rfl⟩,⟨v,rfl⟩⟩:=zr r;refine max_two_ints (I.ok.hd O) λd D k=>⟨_,H,I.kept k,?_,q⟩;by_cases z:j>i
 ·rw[g_ z,g_ z];exact⟨_,U⟩
 ·rw[f_ z,f_ z];exact⟨_,U⟩
def yh(O:X.calm=true):eD X (.builtin "min") (λxs H Q=>∃i j,xs=[.int i,.int j]/\Q (.int<|if j<i then j else i) H):=by
 intro pins s σ H xs us Q I r h;obtain⟨i,j,rfl,q⟩:=h;obtain⟨u,L,rfl,⟨t,rfl⟩,⟨v,rfl⟩⟩:=zr r;refine min_two_ints (I.ok.hd O) λd D k=>⟨_,H,I.kept k,?_,q⟩;by_cases z:j<i
 ·rw[g_ z,g_ z];exact⟨_,U⟩
 ·rw[f_ z,f_ z];exact⟨_,U⟩
def dJ:eD X (.type "int") (λxs H Q=>(∃i,xs=[.int i]/\Q (.int i) H)\/∃k,xs=[.bl k]/\Q (.int<|if k then 1 else 0) H):=by
 intro pins s σ H xs us Q I r h;rcases h with⟨i,rfl,q⟩|⟨k,rfl,q⟩
 ·obtain⟨u,rfl,t,rfl⟩:=hZ r;exact call_int_int ⟨.int i,H,I,⟨_,U⟩,q⟩
 ·obtain⟨u,rfl,z⟩:=hZ r;cases z;exact call_int_bool ⟨.int<|if k then 1 else 0,H,I.tok _,⟨_,U⟩,q⟩
def fe:eD X (.type "str") (λxs H Q=>∃i,xs=[.int i]/\i.natAbs.log2<1920/\Q (.str<|toString i) H):=by
 intro pins s σ H xs us Q I r h;obtain⟨i,rfl,z,q⟩:=h;obtain⟨u,rfl,t,rfl⟩:=hZ r;exact PySem.P.str_of_int z ⟨.str _,H,I.tok _,⟨_,U⟩,q⟩
end
structure RV(h:Heap)(x dx C:Vr)(mA:Str->Option Vq):Prop where
 obj:h.get? x=some (PySem.W.instObj C dx)
 ns:h.Ns1 dx mA
 ne:dx≠x
variable{mA:Str->Option Vq}{dx:Vr}
def iB(n:h.Ns1 dx mA):∃r,h.get? dx=some r/\∀i,PySem.W.lookIn i r=some (mA i):=by
 obtain⟨o,I,ep,G,d,L,_,Y⟩:=n;refine⟨o,G,λi=>?_⟩;have e:=Y i;unfold nsFind findBy at e;rw[<-Array.find?_toList]at e;unfold PySem.W.lookIn;rw[d];dsimp only;split
 ·rename_i y q;rw[q]at e;exact e_ some e
 ·rename_i q;rw[q]at e;have a:I.toList.any (·.refKey)=false:=by
   rw[List.any_eq_false];intro y J;obtain⟨z,t,O⟩:=L y (Array.mem_toList_iff.mp J);simp[DictEntry.refKey,O]
  have D:¬I.toList.any (·.refKey)=true:=by rw[a];exact MA
  rw[f_ D];exact e_ some e
def RV.look{x dx C:Vr}(I:RV h x dx C mA):∃i,PySem.W.InstAt h x (PySem.W.instObj C dx) C (some i)/\∀t,PySem.W.lookIn t i=some (mA t):=
 let⟨i,z,q⟩:=iB I.ns
 ⟨i,⟨I.obj,U,U,z⟩,q⟩
section
variable{o:Vt}{w:Vu}{A:Vv}{E:Vq->Vs->Prop}{s:Vs}{K:ZF}{x i C f:Vr}{mA:Str->Option Vq}{e:Str}{v:Vq}
def CV{expr:Bool}{Q:Vq->Vs->Prop}(X:K.In s.heap)(I:RV s.heap x i C mA)(O:PySem.W.plainGet K C e=true)(D:PySem.W.hasDictIn K C=true)
  (z:PySem.W.findIn K (.ref C) e=some none) (Y:mA e=some v) (q:PySem.W.handedIn v=true) (h:Q v {s with toks:=s.toks+1}) :
  wpAny (model o w) A (getAttr (.ref x) e expr) Q E s:=by
 obtain⟨t,J,L⟩:=I.look;exact PySem.W.get_value X J (Tg O).1 (PySem.W.findObj_own D z U<|by rw[L,Y]) q h
def zt{pl:Sem Bool}{Q:Vq×List Vq->Vs->Prop}(X:K.In s.heap)(I:RV s.heap x i C mA)(q:PySem.W.plainGet K C e=true)
  (z:PySem.W.findIn K (.ref C) e=some (some<|.ref f)) (D:PySem.W.isFn K (.ref f)=true) (L:mA e=none) (h:Q (.ref f,[.ref x]) s) :
  wpAny (model o w) A (getMethod (.ref x) e pl) Q E s:=by
 obtain⟨t,J,O⟩:=I.look;exact PySem.W.method_fn X J (Tg q).1 (Tg q).2 z (beq_iff_eq.mp D) (by show(PySem.W.lookIn e t).map (·.isSome)=some false;rw[O,L];rfl) h
def CW{L:Vx}{Q:Unit->Vs->Prop}(X:K.In s.heap)(I:RV s.heap x i C mA)
  (p:PySem.W.findIn K (.ref C) "__setattr__"=some (some<|.builtin "object.__setattr__")) (m:PySem.W.plainOver K C=true) (j:PySem.W.takerIn K C e=some none) (hh:PySem.W.hasDictIn K C=true)
  (hw:PySem.Within mA L) (hsz:L.length<=sizeLine)
  (h:∀t,RV t x i C (λy=>if y=e then some v else mA y)->Heap.SameBut i s.heap t->Q () {s with heap:=t,toks:=s.toks+2}) :
  wpAny (model o w) A (setAttr (.ref x) e v) Q E s:=by
 obtain⟨B,J,R⟩:=I.look;refine PySem.W.set_plain X J p (PySem.W.osa_open (s:={s with toks:=s.toks+1}) (r:=none) X J m j λb=>?_);obtain⟨cd,d,Y⟩:=PySem.W.any_some hh;have N:s.heap.get? x=some ⟨.ref C,some i,.plain,#[]⟩:=I.obj;refine a_ (d_<|a_<|a_<|S0 N<|a_<|PySem.W.Looks.here (s:={s with toks:=s.toks+1}) (PySem.W.looks_clsIn X d) ?_);rw[Y];refine d_ (a:=some i) (a_<|d_<|a_ ?_);refine wpAny_nsSet1 (s:={s with toks:=s.toks+1}) I.ns λt D O=>?_;obtain⟨oD,ee,Z,z,q,G⟩:=D.count (PySem.Within.cons e v hw);refine a_ (wpAny_lookBehind z (by rw[q];exact pastItsLine_dict (MP G<|by rw[Mg];lia)) ?_);exact d_ (h _ ⟨(O.2 _<|F_ I.ne).trans I.obj,D,I.ne⟩ O)
def zu{R:Result->Vs->Prop}{vs:List Vq}{q:List (Str×Vq)}(X:K.In s.heap)(I:PySem.W.makesIn K C=true)
  (O:PySem.W.findIn K (.ref C) "__init__"=some (some<|.ref f)) (z:PySem.W.typeIn K (.ref f)=some (.type "function"))
  (h:codeAny (model o w) (A.under<|.builtin "type.__call__" ⟨.ref C::vs,q⟩) (.call (.ref f) ⟨.ref (s.heap.objs.size+1)::vs,q⟩) (PySem.W.InitBack (s.heap.objs.size+1) R)
   {s with heap:=(s.heap.push PySem.W.emptyDict).push (PySem.W.instObj C s.heap.objs.size)}) :
  codeAny (model o w) A (.call (.ref C) ⟨vs,q⟩) R s:=by
 obtain⟨D,g,d,t,os⟩:=s;exact PySem.W.make_core (PySem.W.makes_of X I) (S7 X O) (λself=>PySem.W.bind_fn X self z) (.inl U) h
end
def aN(f:Str)(v:V):List (Str×V)->List (Str×V)
 |[]=>[(f,v)]
 |(g,x)::r=>if g=f then(g,v)::r else(g,x)::aN f v r
def ia(f g:Str)(v:V):∀t:List (Str×V),(aN f v t).lookup g=if g=f then some v else t.lookup g
 |[]=>by
  show List.lookup g [(f,v)]=_;by_cases h:g=f
  ·have q:(g==f)=true:=beq_iff_eq.mpr h;simp only[List.lookup,q,g_ h]
  ·have q:(g==f)=false:=beq_eq_false_iff_ne.mpr h;simp only[List.lookup,q,f_ h]
 |(k,x)::r=>by
  have O:=ia f g v r;rw[show aN f v ((k,x)::r)=(if k=f then(k,v)::r else(k,x)::aN f v r)from rfl];by_cases z:k=f
  ·rw[g_ z];by_cases h:g=k
   ·have q:(g==k)=true:=beq_iff_eq.mpr h;simp only[List.lookup,q,g_<|h.trans z]
   ·have q:(g==k)=false:=beq_eq_false_iff_ne.mpr h;simp only[List.lookup,q,f_ λe:g=f=>h<|e.trans z.symm]
  ·rw[f_ z];by_cases h:g=k
   ·have q:(g==k)=true:=beq_iff_eq.mpr h;simp only[List.lookup,q,f_ λe:g=f=>z<|h.symm.trans e]
   ·have q:(g==k)=false:=beq_eq_false_iff_ne.mpr h;simp only[List.lookup,q];exact O
def gq(f:Str)(v:V):∀t:List (Str×V),f∈(aN f v t).map (·.1)/\∀g,g∈t.map (·.1)->g∈(aN f v t).map (·.1)
 |[]=>⟨by simp[aN],λg h=>by simp at h⟩
 |(k,x)::r=>by
  obtain⟨i,d⟩:=gq f v r;rw[show aN f v ((k,x)::r)=(if k=f then(k,v)::r else(k,x)::aN f v r)from rfl];by_cases q:k=f
  ·rw[g_ q];subst q;exact⟨by simp,λg h=>by simpa using h⟩
  ·rw[f_ q];refine⟨?_,λg h=>?_⟩
   ·rw[Mz];exact Mn _ i
   ·rw[Mz]at h⊢;rcases Mo.mp h with e|e
    ·exact Mo.mpr (.inl e)
    ·exact Mn _ (d g e)
def ib(f:Str)(v:V):∀t:List (Str×V),(aN f v t).length<=t.length+1
 |[]=>by simp[aN]
 |(k,x)::r=>by
  have z:=ib f v r;rw[show aN f v ((k,x)::r)=(if k=f then(k,v)::r else(k,x)::aN f v r)from rfl];by_cases q:k=f
  ·rw[g_ q,Mg,Mg];lia
  ·rw[f_ q,Mg,Mg];lia
variable{v:V}
def QB.some_of{o:Option Vq}(r:QB (some v) o):∃u,o=some u/\Qd v u:=by
 cases o with
 |none=>exact(show False from r).elim
 |some u=>exact⟨u,U,r⟩
def QB.none_of{o:Option Vq}(r:QB none o):o=none:=by
 cases o with
 |none=>rfl
 |some u=>exact(show False from r).elim
def oW(r:Qd v u):PySem.W.handedIn u=true:=by
 cases v with
 |non=>cases(show u=Value.none from r);rfl
 |bl b=>cases(show u=Value.bool b from r);rfl
 |int i=>obtain⟨t,e⟩:=(show ∃t,u=Value.int i t from r);cases e;rfl
 |str x=>obtain⟨t,e⟩:=(show ∃t,u=Value.str x t from r);cases e;rfl
 |byt b=>obtain⟨t,e⟩:=(show ∃t,u=Value.bytes b t from r);cases e;rfl
 |flt b=>obtain⟨t,e⟩:=(show ∃t,u=Value.float b t from r);cases e;rfl
 |ref a=>cases(show u=Value.ref a from r);rfl
 |ty n=>cases(show u=Value.type n from r);rfl
section
variable{P:Vt}{w:Vu}{H i:Hp}{h m:Heap}{a C o:Vr}{t YH:List (Str×V)}
def lV(hok:Qt P w H h)(e:H a=some (.ins C o t)):∃mA,RV h a o C mA/\(∀f,QB (t.lookup f)<|mA f)/\PySem.Within mA (t.map (·.1))/\t.length<=1000/\H o=some (.own a):=by
 obtain⟨d,z,ne,O,mA,n,r,q⟩:=(show Qe P w H h a (.ins C o t)from hok a _ e);exact⟨mA,⟨O,n,ne⟩,r,q,z,d⟩
end
structure R0(K:ZF)(C:Vr):Prop where
 pg:PySem.W.plainGet K C Str.empty=true
 hd:PySem.W.hasDictIn K C=true
 po:PySem.W.plainOver K C=true
 sa:PySem.W.findIn K (.ref C) "__setattr__"=some (some<|.builtin "object.__setattr__")
variable{C:Vr}
def R0.get(c:R0 K C)(f:Str):PySem.W.plainGet K C f=true:=c.pg
def Qm(K:ZF)(C:Vr)(f:Str):Prop:=PySem.W.findIn K (.ref C) f=some none
variable{f:Str}
def Qm.taker(n:Qm K C f):PySem.W.takerIn K C f=some none:=by
 unfold PySem.W.takerIn;rw[show PySem.W.findIn K (.ref C) f=some none from n];rfl
structure yi(K:ZF)(C:Vr)(m:Str)(f:Vr):Prop where
 at_:PySem.W.findIn K (.ref C) m=some (some<|.ref f)
 fn:PySem.W.isFn K (.ref f)=true
 kp:PySem.W.keepIn K (.ref f)=true
section
variable{X:Cx}{t:List (Vr×Obj)}{d:St}{H:Hp}{s:Vs}{a C p:Vr}{i:List (Str×V)}{f:Str}{v:V}{A:Vv}{E:Vq->Vs->Prop}
def mS{b:Bool}{Q:Vq->Vs->Prop}(I:P6 X t d H s)(e:H a=some (.ins C p i))(c:R0 X.K C)(n:Qm X.K C f)(l:i.lookup f=some v)
  (h:∀u m,P6 X t d H m->Qd v u->Q u m):wpAny (model X.prog X.w) A (getAttr (.ref a) f b) Q E s:=by
 obtain⟨mA,O,r,_,_,_⟩:=lV I.hok e;obtain⟨u,z,q⟩:=QB.some_of (v:=v) (o:=mA f) (by rw[<-l];exact r f);exact CV I.kIn O (c.get f) c.hd n z (oW q) (h u _ (I.tok _) q)
def i7{m:Str}{g:Vr}{pl:Sem Bool}{Q:Vq×List Vq->Vs->Prop}(I:P6 X t d H s)(e:H a=some (.ins C p i))(c:R0 X.K C)(k:yi X.K C m g)(l:i.lookup m=none)
  (h:Q (.ref g,[.ref a]) s):wpAny (model X.prog X.w) A (getMethod (.ref a) m pl) Q E s:=by
 obtain⟨mA,O,r,_,_,_⟩:=lV I.hok e;have q:mA m=none:=QB.none_of (by rw[<-l];exact r m);exact zt I.kIn O (c.get m) k.at_ k.fn q h
def mU{Q:Unit->Vs->Prop}(I:P6 X t d H s)(e:H a=some (.ins C p i))(c:R0 X.K C)(n:Qm X.K C f)(B:i.length<1000)(ry:Qd y u)
  (h:∀m,P6 X t d (aB H a<|.ins C p<|aN f y i) m->Q () m):wpAny (model X.prog X.w) A (setAttr (.ref a) f u) Q E s:=by
 obtain⟨mA,O,r,Y,_,L⟩:=lV I.hok e;have R:(i.map (·.1)).length<=sizeLine:=by rw[Me,SC];lia
 refine CW I.kIn O c.sa c.po n.taker c.hd Y R λj D sb=>h _ ?_;have N:∃o,j.get? p=some o:=let⟨o,_,_,G,_⟩:=D.ns;⟨o,G⟩;refine I.write (x:=a) (e:=p) (by rw[e];exact True.intro) (.inr L) (λb q J z=>(sb.2 b J).trans z) N ?_;refine⟨by rw[al O.ne];exact L,?_,O.ne,D.obj,_,D.ns,λg=>?_,λg Z=>?_⟩
 ·have:=ib f y i;lia
 ·show QB ((aN f y i).lookup g) (if g=f then some u else mA g);rw[ia];by_cases q:g=f
  ·rw[g_ q,g_ q];exact ry
  ·rw[f_ q,f_ q];exact r g
 ·by_cases q:g=f
  ·rw[q];exact(gq f y i).1
  ·refine(gq f y i).2 g (Y g λz=>Z ?_);show(if g=f then some u else mA g)=none;rw[f_ q];exact z
def P6.made(I:P6 X t d H s):P6 X t d (aB (aB H s.heap.objs.size<|.own<|s.heap.objs.size+1) (s.heap.objs.size+1)<|.ins C s.heap.objs.size [])
  {s with heap:=(s.heap.push PySem.W.emptyDict).push (PySem.W.instObj C s.heap.objs.size)}:=by
 have e1:(s.heap.push PySem.W.emptyDict).get? s.heap.objs.size=some PySem.W.emptyDict:=MB s.heap rfl;have e2:((s.heap.push PySem.W.emptyDict).push<|PySem.W.instObj C s.heap.objs.size).get? (s.heap.objs.size+1)=some (PySem.W.instObj C s.heap.objs.size):=by
  have:=MB (s.heap.push PySem.W.emptyDict) (o:=PySem.W.instObj C s.heap.objs.size) rfl
  rwa [ND]at this
 have O:(s.heap.push PySem.W.emptyDict).Ns s.heap.objs.size (λ_=>none):=⟨PySem.W.emptyDict,#[],_,e1,U,(λe D=>absurd D<|by simp),λ_=>rfl⟩;have z:=I.laid (a:=s.heap.objs.size) (o:=.own (s.heap.objs.size+1)) (h':=s.heap.push PySem.W.emptyDict) (t':=s.toks) (λb u q=>Mh _ q) (Ml _) ⟨_,e1⟩;refine z.laid (a:=s.heap.objs.size+1) (o:=.ins C s.heap.objs.size []) (t':=s.toks) (λb u q=>Mh _ q) (Nat.le_of_eq<|ND _ _) ?_;have ne:s.heap.objs.size≠s.heap.objs.size+1:=ME (NG _);refine⟨by rw[al ne,aa],MR _,ne,e2,λ_=>none,(Heap.Ns1.of_empty O).at λo q=>Mh _ q,λ_=>True.intro,λy L=>absurd rfl L⟩
def wM{m:Vt}{w:Vu}{r:Env}{j:Pos}{s:Vs}{Q:Vq->Vs->Prop}(z:attributeBase e f r (eval e r)=eval e r)
  (h:wpAny (model m w) A (eval e r) (λo q=>wpAny (model m w) A (getAttr o f true) Q E q) E s):wpAny (model m w) A (eval (.Attribute e f j) r) Q E s:=
 Attribute_any_ h (by rw[arm_eval_Attribute,z])
end
inductive EW(K:ZF)(f:Str)(Q:VK)(x:V)(t:Hp):Prop
 |mk(a C dx i v:_):x=.ref a->t a=some (.ins C dx i)->R0 K C->Qm K C f->i.lookup f=some v->Q v t->EW K f Q x t
def Ks(K:ZF)(z:TE)(f:Str):TE:=λσ H Q=>z σ H λx q=>EW K f Q x q
inductive EY(K:ZF)(f:Str)(D:Qr)(σ:St)(y:V)(x:V)(t:Hp):Prop
 |mk(a C dx i:_):x=.ref a->t a=some (.ins C dx i)->R0 K C->Qm K C f->i.length<1000->D.nx σ (aB t a<|.ins C dx<|aN f y i)->EY K f D σ y x t
def Kt(K:ZF)(O I:TE)(f:Str):TS:=λD σ H=>I σ H λy q=>O σ q λx z=>EY K f D σ y x z
def Ip(X:Cx)(q:Operator)(z:V->V->Hp->VK->Prop):Prop:=
 ∀(pins:List (Vr×Obj))(s:Vs)(σ:St)(H:Hp)(x y:V)(u v:Vq)(Q:VK),P6 X pins σ H s->Qd x u->Qd y v->z x y H Q->wpAny (model X.prog X.w) X.A (inplaceOp q u v) (EP X pins σ Q) X.xe s
inductive sj(K:ZF)(tv:TE)(rd:V->V->Hp->VK->Prop)(f:Str)(D:Qr)(σ:St)(x:V)(t:Hp):Prop
 |mk(a C dx r v:_):x=.ref a->t a=some (.ins C dx r)->R0 K C->Qm K C f->r.lookup f=some v->(tv σ t λy d=>rd v y d λz i=>∃dx' YH,i a=some (.ins C dx' YH)/\YH.length<1000/\D.nx σ (aB i a<|.ins C dx'<|aN f z YH))->sj K tv rd f D σ x t
def CY(K:ZF)(O I:TE)(z:V->V->Hp->VK->Prop)(f:Str):TS:=λD σ H=>O σ H λx q=>sj K I z f D σ x q
section
variable{X:Cx}{o e value:Expr}{f:Str}{r VI tpos:Pos}{d tv:TE}
def eJ(J:PE X e d)(G:attributeBase e f X.env (eval e X.env)=eval e X.env):PE X (.Attribute e f r) (Ks X.K d f):=by
 refine⟨?_⟩;intro pins s σ H Q I h;refine wM G (bL (J pins s σ H _ I h) λu i z=>?_);obtain⟨x,O,D,rx,a,C,dx,t,v,ex,Y,c,n,l,q⟩:=z;subst ex;obtain rfl:u=Value.ref a:=rx;exact mS D Y c n l λp m L Z=>⟨v,O,L,Z,q⟩
def fv(Z:PE X o d)(i:PE X value tv)(t:swapsWith value (some<|.Attribute o f VI) r.line X.env=pure false):PS X (.Assign [.Attribute o f VI] value r) (Kt X.K d tv f):=by
 refine⟨?_⟩;intro pins s σ H D I h;refine Uc (bL (i pins s σ H _ I h) λu p⟨y,O,L,ry,q⟩=>bL (Z pins p σ O _ L q) λov R z=>?_) t;obtain⟨x,j,Y,rx,a,C,dx,N,ex,J,c,n,l,m⟩:=z;subst ex;obtain rfl:ov=Value.ref a:=rx;exact mU Y J c n l ry λB G=>⟨σ,_,G,m⟩
def oX{G:Operator}{J:V->V->Hp->VK->Prop}(p:PE X o d)(j:PE X value tv)(Y:Ip X G J):PS X (.AugAssign (.Attribute o f tpos) G value r) (CY X.K d tv J f):=by
 refine⟨?_⟩;intro pins s σ H D I h;refine wpAny_AugAssign_AttributeAny (bL (p pins s σ H _ I h) λov s1 O=>?_);obtain⟨x,Z,i,rx,a,C,dx,fs,v,ex,ea,c,n,l,q⟩:=O;subst ex;obtain rfl:ov=Value.ref a:=rx;refine mS i ea c n l λu N m ru=>bL (j pins N σ Z _ m q) λw3 R⟨y,t,I3,ry,q3⟩=>bL (Y pins R σ t v y u w3 _ I3 ru ry q3) λw4 s4 O=>?_;obtain⟨z,B,I4,rz,ee,YH,L,l',q4⟩:=O;exact mU I4 L c n l' rz λs5 I5=>⟨σ,_,I5,q4⟩
inductive Iq(x:V)(y:V)(H:Hp)(Q:VK):Prop
 |mk(i j:_):x=.int i->y=.int j->Q (.int<|i+j) H->Iq x y H Q
def zw:Ip X .Add Iq:=by
 intro pins s σ H x y u v Q I z O z;obtain⟨i,j,rfl,rfl,q⟩:=z;obtain⟨t,rfl⟩:=(show ∃t,u=Value.int i t from z);obtain⟨m,rfl⟩:=(show ∃m,v=Value.int j m from O);exact PyProof.Rows.iadd_int ⟨.int<|i+j,H,I.tok _,⟨_,U⟩,q⟩
end
section
variable{X:Cx}{r:List (Vr×Obj)}{d:St}{H:Hp}{s:Vs}{A:Vv}{E:Vq->Vs->Prop}{Q:Vq->Vs->Prop}{c:Vq}{b:Bool}
inductive jE(K:ZF)(H:Hp):V->Vq->Prop where
 |non:jE K H .non (.type "NoneType")
 |bl (x:Bool):jE K H (.bl x) (.type "bool")
 |int (i:Int):jE K H (.int i) (.type "int")
 |str (x:Str):jE K H (.str x) (.type "str")
 |flt (x:UInt64):jE K H (.flt x) (.type "float")
 |lst {a:Vr} {xs:VA} (e:H a=some (.lst xs)):jE K H (.ref a) (.type "list")
 |frz {a:Vr} {o:Obj} {xs:VA} (e:H a=some (.frz o<|.lst xs)):jE K H (.ref a) (.type "list")
 |tup {a:Vr} {xs:VA} (e:H a=some (.tup xs)):jE K H (.ref a) (.type "tuple")
 |dK {a:Vr} {t:List (di×V)} (e:H a=some (.dK t)):jE K H (.ref a) (.type "dict")
 |dT {a:Vr} {t:List (List di×V)} (e:H a=some (.dT t)):jE K H (.ref a) (.type "dict")
 |ins {a C dx:Vr} {m:List (Str×V)} (e:H a=some (.ins C dx m)) (p:R0 K C) (j:PySem.W.findIn K (.ref C) "__class__"=some (some<|.builtin "object.__class__"))
   (O:PySem.W.specialIn K (.builtin "object.__class__") "__get__"=some (some<|.builtin "getset_descriptor.__get__")) (htk:PySem.W.takesIn K (.builtin "object.__class__")=some true)
   (q:PySem.W.mroIn K C (.type "object")=some true):jE K H (.ref a) (.ref C)
def yj{u t:Vq}(I:P6 X r d H s)(L:Qd x u)(ty:jE X.K H x t)(e:PySem.W.kitOne X.K t c=some b)(h:∀tk,Q (.bool b) {s with toks:=tk}):
  wpAny (model X.prog X.w) A (call (.builtin "isinstance") [u,c]) Q E s:=by
 cases ty with
 |non=>cases(show u=Value.none from L);exact Nf PySem.W.kitx_none I.kIn True.intro e (λz=>nomatch z) h
 |bl y=>cases(show u=Value.bool y from L);exact Nf PySem.W.kitx_bool I.kIn True.intro e (λz=>nomatch z) h
 |int i=>obtain⟨t,q⟩:=(show ∃t,u=Value.int i t from L);cases q;exact Nf PySem.W.kitx_int I.kIn True.intro e (λz=>nomatch z) h
 |str y=>obtain⟨t,q⟩:=(show ∃t,u=Value.str y t from L);cases q;exact Nf PySem.W.kitx_str I.kIn True.intro e (λz=>nomatch z) h
 |flt y=>obtain⟨t,q⟩:=(show ∃t,u=Value.float y t from L);cases q;exact Nf PySem.W.kitx_float I.kIn True.intro e (λz=>nomatch z) h
 |@lst a xs D=>
  cases(show u=Value.ref a from L);obtain⟨_,_,n,_,m⟩:=(show Qe X.prog X.w H s.heap a (.lst xs)from I.hok a _ D);exact Nf PySem.W.kitx_list I.kIn ⟨_,m,U⟩ e (λz=>nomatch z) h
 |@frz a ob xs D=>
  cases(show u=Value.ref a from L);obtain⟨_,_,_,n,_,m⟩:=(show Qe X.prog X.w H s.heap a (.frz ob<|.lst xs)from I.hok a _ D);exact Nf PySem.W.kitx_list I.kIn ⟨_,m,U⟩ e (λz=>nomatch z) h
 |@tup a xs D=>
  cases(show u=Value.ref a from L);obtain⟨_,_,_,p⟩:=(show Qe X.prog X.w H s.heap a (.tup xs)from I.hok a _ D);obtain⟨o,m,N,_⟩:=p;exact Nf PySem.W.kitx_tuple I.kIn ⟨o,m,(Ta N).1⟩ e (λz=>nomatch z) h
 |@dK a j D=>
  cases(show u=Value.ref a from L);obtain⟨_,_,vs,_,p⟩:=(show Qe X.prog X.w H s.heap a (.dK j)from I.hok a _ D);obtain⟨o,G,ep,m,N,_⟩:=p;exact Nf PySem.W.kitx_dict I.kIn ⟨o,m,N.1⟩ e (λz=>nomatch z) h
 |@dT a j D=>
  cases(show u=Value.ref a from L);obtain⟨_,_,xs,_,o,G,ep,m,N,_⟩:=(show Qe X.prog X.w H s.heap a (.dT j)from I.hok a _ D);exact Nf PySem.W.kitx_dict I.kIn ⟨o,m,N.1⟩ e (λz=>nomatch z) h
 |@ins a C dx fs D R Z hn Y B=>
  cases(show u=Value.ref a from L);obtain⟨mA,O,_⟩:=lV I.hok D;obtain⟨od,J,_⟩:=O.look;exact Nf (PySem.W.kitx_own (R.get _) R.hd Z hn Y B) I.kIn J e (λz=>nomatch z) h
end
structure P9(k:Nat)(A:Vv):Prop where
 hd:A.handled=none
 dp:A.depth+3*k+5<recursionLimit
 un:A.units+16*k+200<cLine
def P9.mono{j k:Nat}(r:P9 k A)(h:j<=k):P9 j A:=⟨r.hd,by have:=r.dp;lia,by have:=r.un;lia⟩
def P9.m{j k:Nat}(r:P9 k A)(h:j<=k:=by decide):P9 j A:=r.mono h
def P9.deeper{k:Nat}(r:P9 (k+1) A)(t:Env):P9 k (A.deeper t):=
 ⟨r.hd,by have:=r.dp;show A.depth+1+3*k+5<_;lia,by have:=r.un;show A.units+3+16*k+200<_;lia⟩
variable{kw:List (Str×Vq)}
def uL:(A.under<|.builtin "type.__call__" ⟨.ref C::us,kw⟩).depth=A.depth+1:=by
 first|rfl|simp[Around.under,Code.weight,Code.isCreation,Code.isGuard,Code.isCaller,Code.frames,Code.isFrame,guardIds]
def uM:(A.under<|.builtin "type.__call__" ⟨.ref C::us,kw⟩).units=A.units+1:=by
 first|rfl|simp[Around.under,Code.cUnits,Code.frames,Code.isFrame]
def P9.make{k:Nat}(r:P9 (k+1) A)(C:Vr)(us:List Vq)(kw:List (Str×Vq)):P9 k (A.under<|.builtin "type.__call__" ⟨.ref C::us,kw⟩):=
 ⟨r.hd,by have:=r.dp;rw[uL];lia,by have:=r.un;rw[uM];lia⟩
def P9.depth{k:Nat}(r:P9 k A):A.depth<recursionLimit:=by have:=r.dp;lia
def P9.units{k:Nat}(r:P9 k A):A.units+64<cLine:=by have:=r.un;lia
def oK:TA:=λ_ H Q=>Q [] H
def dw(O:TE)(I:TA):TA:=λσ H Q=>O σ H λx q=>I σ q λxs z=>Q (x::xs) z
section
variable{X:Cx}{e:Expr}{i:List Expr}{d:TE}{t:TA}{o:Pos}
def bN:PA X [] oK:=⟨λ_ _ _ _ H Q I h=>Calls.spliced_nil ⟨[],H,I,.nil,h⟩⟩
def be(Y:PE X e d)(hr:PA X i t)(G:starEach (e::i) X.env=(false,eval e X.env)::starEach i X.env:=by rfl):PA X (e::i) (dw d t):=by
 refine⟨?_⟩;intro o pins s σ H Q I h;rw[G];show wpAny _ _ (spliced ((false,eval e X.env)::backTo o (starEach i X.env))) _ _ s;refine Calls.spliced_cons (bL (Y pins s σ H _ I h) λu p q=>?_);obtain⟨x,z,D,r,J⟩:=q;exact bL (hr o pins p σ z _ D J) λus j⟨xs,O,L,m,Z⟩=>⟨x::xs,O,L,.cons r m,Z⟩
def Ku(t:TA):TE:=λσ H Q=>t σ H λxs q=>xs.length<=sizeLine/\∀p,q p=none->Q (.ref p) (aB q p<|.tup xs)
def Kv(t:TA):TE:=λσ H Q=>t σ H λxs q=>xs.length<=sizeLine/\∀p,q p=none->Q (.ref p) (aB q p<|.lst xs)
def aw{x1}(h:PA X i t):PE X (.Tuple i x1 o) (Ku t):=by
 refine⟨?_⟩;intro pins s σ H Q I G;refine wpAny_Tuple_spliced (bL (h o pins s σ H _ I G) λus O⟨xs,D,L,r,z,q⟩=>⟨by rw[<-r.length];exact z,?_⟩);have Y:D O.heap.objs.size=none:=L.hok.fresh (Ml _);refine⟨.ref O.heap.objs.size,aB D O.heap.objs.size<|.tup xs,L.laid (t':=O.toks) (λb u e=>Mh _ e) (Ml _) ?_,U,q _ Y⟩;exact⟨z,us,r,⟨_,MB _ U,U,_,U⟩⟩
def aM(h:PA X i t):PE X (.List i o) (Kv t):=by
 refine⟨?_⟩;intro pins s σ H Q I G;refine wpAny_List_spliced (bL (h o pins s σ H _ I G) λus O⟨xs,D,L,r,z,q⟩=>⟨by rw[<-r.length];exact z,?_⟩);have Y:D O.heap.objs.size=none:=L.hok.fresh (Ml _);refine⟨.ref O.heap.objs.size,aB D O.heap.objs.size<|.lst xs,L.laid (t':=O.toks) (λb u e=>Mh _ e) (Ml _) ?_,U,q _ Y⟩;exact⟨z,us,0,r,MB _ U⟩
end
abbrev Sp:=VA->Hp->VK->XK->Prop
abbrev y9:=List Env->Hp->Vs->XK->Vq->Vs->Prop
structure RH(P:Vt)(w:Vu)(K:ZF)(mg:Str->Option Vq)(base:Heap)(A:Vv)(outer:List Env)(s:Vs)(H:Hp):Prop where
 frames:A.frames=some outer
 mod:Mod K mg base
 bs:∀b o,base.get? b=some o->s.heap.get? b=some o/\H b=none
 bsz:base.objs.size<=s.heap.objs.size
 funs:s.heap.FunFrames base outer
 frf:∀b∈mL outer,H b=none
 hok:Qt P w H s.heap
 bare:AllBare s.gens
inductive CE(outer:List Env)(P:Vt)(w:Vu)(H:Hp)(s:Vs)(Q:VK)(u:Vq)(t:Vs):Prop
 |mk(v i:_):t.os=s.os->AllBare t.gens->Un (mL outer) [] H i s.heap t.heap->Qt P w i t.heap->Qd v u->Q v i->CE outer P w H s Q u t
def CR(q:y9)(outer:List Env)(P:Vt)(w:Vu)(H:Hp)(s:Vs)(Q:VK)(E:XK)(r:Result)(t:Vs):Prop:=
 match r with
 |.ok (.ret u)=>CE outer P w H s Q u t
 |.ok _=>False
 |.error e=>q outer H s E e t
structure P7(P:Vt)(w:Vu)(K:ZF)(mg:Str->Option Vq)(base:Heap)(CX:y9)(k:Nat)(f:Vr)(fd:Vw)(ps:Vx)(sp:Sp):Prop where
 len:∀vs H Q E,sp vs H Q E->vs.length=ps.length
 run:∀(A:Vv)(outer:List Env)(s:Vs)(H:Hp)(args:Args)(us:List Vq)(vs:VA)(Q:VK)(E:XK),P9 k A->RH P w K mg base A outer s H->BindsTo s fd args (ps.zip us)->Qb vs us->sp vs H Q E->
  codeAny (model P w) A (.call (.ref f) args) (CR CX outer P w H s Q E) s
variable{ps:Vx}{fd:Vw}{CX:y9}{base:Heap}{mg:Str->Option Vq}
def P7.mono{j k:Nat}{f:Vr}{sp:Sp}(F:P7 P w K mg base CX j f fd ps sp)(h:j<=k):
  P7 P w K mg base CX k f fd ps sp:=⟨F.len,λA outer s H args us vs Q E hr=>F.run A outer s H args us vs Q E<|hr.mono h⟩
variable{outer:List Env}
def RH.make(e:RH P w K mg base A outer s H)(C:Vr)(us:List Vq)(kw:List (Str×Vq)):
  RH P w K mg base (A.under<|.builtin "type.__call__" ⟨.ref C::us,kw⟩) outer s H:=⟨by first|exact e.frames|(simpa[Around.under,Code.envs,Code.isFrame,pushEnvs]using e.frames),e.mod,e.bs,e.bsz,e.funs,e.frf,e.hok,e.bare⟩
section
variable{X:Cx}{e:List (Vr×Obj)}{i:St}{H:Hp}{s o:Vs}
def P6.env0(I:P6 X e i H s):RH X.prog X.w X.K X.mg X.base X.A X.stack s H:=
 ⟨I.ok.frames,I.ok.mod,I.bs,MP I.ok.bsz I.sz,I.stack,I.stkFree,I.hok,I.bare⟩
def P6.after{Q:VK}(I:P6 X e i H s)(h:CE X.stack X.prog X.w H s Q u o):EP X e i Q u o:=by
 obtain⟨v,D,os,bare,un,hok,r,q⟩:=h;obtain⟨L,g,d,t,O⟩:=o;obtain rfl:O=s.os:=os;exact⟨v,D,I.call (h':=L) (g':=g) (d':=d) (t':=t) (ch:=[]) un hok bare (λb z=>absurd z<|by simp),r,q⟩
end
def wN(sp:Sp)(i:VA)(E:XK)(t:TA):TE:=λσ H Q=>t σ H λvs q=>sp (vs++i) q Q E
def Ir(C:Vr)(sp:Sp)(i:VA)(E:XK)(t:TA):TE:=λσ H Q=>t σ H λvs q=>∀x dx,q x=none->q dx=none->dx≠x->
 sp (.ref x::(vs++i)) (aB (aB q dx<|.own x) x<|.ins C dx []) (λv z=>v=.non/\Q (.ref x) z) E
def Qk(K:ZF)(fd:Vw)(ps:Vx)(t:List Vq):Prop:=
 ∀(s:Vs)(us:List Vq),K.In s.heap->(us++t).length=ps.length->BindsTo s fd ⟨us,[]⟩ (ps.zip<|us++t)
def Qk.all(h:∀us:List Vq,us.length=ps.length->bindArgs fd ⟨us,[]⟩=pure (ps.zip us)):Qk K fd ps []:=λs us _ q=>by
 rw[MM]at q⊢;exact .of_eq (h us q)
def gD(CX:y9)(X:Cx)(E:XK):Prop:=∀(pins:List (Vr×Obj))(σ:St)(H:Hp)(s:Vs)(e:Vq)(t:Vs),P6 X pins σ H s->CX X.stack H s E e t->X.xe e t
section
variable{X:Cx}{CX:y9}{k:Nat}{f C:Vr}{N:Vw}{d:Vx}{sp:Sp}{dvs:VA}{ds:List Vq}{E:XK}{x m:Str}{p i G':Pos}{e o:Expr}{j:List Expr}{R:TE}{t:TA}
def mV{pins:List (Vr×Obj)}{σ:St}{H:Hp}{s:Vs}{Q:VK}{us:List Vq}{vs:VA}(F:P7 X.prog X.w X.K X.mg X.base CX k f N d sp)(hr:P9 k X.A)(D:Qk X.K N d ds)(B:Qb dvs ds)(Y:gD CX X E)
  (I:P6 X pins σ H s) (r:Qb vs us) (h:sp (vs++dvs) H Q E):wpAny (model X.prog X.w) X.A (call (.ref f) us) (EP X pins σ Q) X.xe s:=by
 have z:Qb (vs++dvs) (us++ds):=r.append B;have L:(us++ds).length=d.length:=by rw[<-z.length];exact F.len _ _ _ _ h
 refine E_ (u_ (F.run X.A X.stack s H ⟨us,[]⟩ (us++ds) (vs++dvs) Q E hr I.env0 (D s us I.kIn L) z h) λr G q=>?_);cases r with
 |error e=>exact Y pins σ H s e G I q
 |ok O=>
  cases O with
  |ret u=>exact I.after q
  |next=>exact False.elim q
  |brk=>exact False.elim q
  |cont=>exact False.elim q
def CZ(F:P7 X.prog X.w X.K X.mg X.base CX k f N d sp)(hr:P9 k X.A)(J:Gl X x)(hm:X.mg x=some (.ref f))(Z:PySem.W.keepIn X.K (.ref f)=true)(Y:Qk X.K N d ds)(B:Qb dvs ds)(hx:gD CX X E)
  (L:PA X (e::j) t) (D:(x==("__debug__":Str))=false:=by decide) (G:starEach (e::j) X.env=(false,eval e X.env)::starEach j X.env:=by rfl) (O:(backTo i<|starEach j X.env).any (·.1)=false:=by rfl) :
  PE X (.Call (.Name x p) (e::j) [] i) (wN sp dvs E t):=by
 refine⟨?_⟩;intro pins s σ H Q I h;refine q_ (fJ I J hm ?_ D);refine Np (h₀:=X.base) I.ok.mod.kin Z (bL (L i pins s σ H _ I h) λus s1⟨vs,H1,z,r,q⟩=>⟨z.kIn,?_⟩) G O;exact mV F hr Y B hx z r q
def zx(F:P7 X.prog X.w X.K X.mg X.base CX k f N d sp)(hr:P9 k X.A)(O:Gl X x)(L:X.mg x=some (.ref f))(D:PySem.W.keepIn X.K (.ref f)=true)(z:Qk X.K N d ds)(r:Qb dvs ds)(Y:gD CX X E)
  (q:(x==("__debug__":Str))=false:=by decide):PE X (.Call (.Name x p) [] [] i) (wN sp dvs E oK):=by
 refine⟨?_⟩;intro pins s σ H Q I h;refine q_ (fJ I O L ?_ q);exact PySem.W.callWith_K0 I.kIn D (mV (us:=[]) F hr z r Y I .nil h)
structure Mk(K:ZF)(C f:Vr):Prop where
 makes:PySem.W.makesIn K C=true
 init:PySem.W.findIn K (.ref C) "__init__"=some (some<|.ref f)
 fn:PySem.W.isFn K (.ref f)=true
 kp:PySem.W.keepIn K (.ref C)=true
def zy{pins:List (Vr×Obj)}{σ:St}{H:Hp}{s:Vs}{Q:VK}{us:List Vq}{vs:VA}(M:Mk X.K C f)(F:P7 X.prog X.w X.K X.mg X.base CX k f N d sp)(hr:P9 (k+1) X.A)(B:Qk X.K N d ds)(hd:Qb dvs ds)
  (hx:gD CX X E) (I:P6 X pins σ H s) (r:Qb vs us)
  (h:∀x dx,H x=none->H dx=none->dx≠x->sp (.ref x::(vs++dvs)) (aB (aB H dx<|.own x) x<|.ins C dx []) (λv Y=>v=.non/\Q (.ref x) Y) E) :
  wpAny (model X.prog X.w) X.A (call (.ref C) us) (EP X pins σ Q) X.xe s:=by
 have O:=h (s.heap.objs.size+1) s.heap.objs.size (I.hok.fresh<|Tf _) (I.hok.fresh<|Ml _) (ME<|NG _);have z:=P6.made (C:=C) I;have D:Qb (V.ref (s.heap.objs.size+1)::(vs++dvs)) (Value.ref (s.heap.objs.size+1)::(us++ds)):=.cons U (r.append hd);have hl:(Value.ref (s.heap.objs.size+1)::us++ds).length=d.length:=by
  have e:=D.length;rw[F.len _ _ _ _ O]at e;exact e.symm
 refine E_ (zu (f:=f) I.kIn M.makes M.init (beq_iff_eq.mp M.fn)<|u_ (F.run _ X.stack _ _ ⟨Value.ref (s.heap.objs.size+1)::us,[]⟩ (Value.ref (s.heap.objs.size+1)::(us++ds)) _ _ E (hr.make C us [])
  (z.env0.make C us []) (B _ (Value.ref (s.heap.objs.size+1)::us) z.kIn hl) D O) λr s' q=>?_)
 cases r with
 |error e=>exact hx pins σ _ _ e s' z q
 |ok Z=>
  cases Z with
  |ret u=>
   obtain⟨v,L,G,rv,J,q3⟩:=z.after q;subst J;exact⟨rv,⟨V.ref<|s.heap.objs.size+1,L,G,U,q3⟩⟩
  |next=>exact False.elim q
  |brk=>exact False.elim q
  |cont=>exact False.elim q
def wO(M:Mk X.K C f)(F:P7 X.prog X.w X.K X.mg X.base CX k f N d sp)(hr:P9 (k+1) X.A)(J:Gl X x)(Z:X.mg x=some (.ref C))(Y:Qk X.K N d ds)(B:Qb dvs ds)(hx:gD CX X E)
  (L:PA X (e::j) t) (D:(x==("__debug__":Str))=false:=by decide) (G:starEach (e::j) X.env=(false,eval e X.env)::starEach j X.env:=by rfl) (O:(backTo i<|starEach j X.env).any (·.1)=false:=by rfl) :
  PE X (.Call (.Name x p) (e::j) [] i) (Ir C sp dvs E t):=by
 refine⟨?_⟩;intro pins s σ H Q I h;refine q_ (fJ I J Z ?_ D);refine Np (h₀:=X.base) I.ok.mod.kin M.kp (bL (L i pins s σ H _ I h) λus s1⟨vs,H1,z,r,q⟩=>⟨z.kIn,?_⟩) G O;exact zy M F hr Y B hx z r q
end
structure ax(N P:Vx)(sc:Scope):Prop where
 kind:sc.kind=.function
 co:sc.isCoroutine=false
 gen:sc.isGenerator=false
 nd:N.Nodup
 pre:N.take P.length=P
 par:∀x∈P,sc.names.lookup x=some .local\/sc.names.lookup x=some .cell
 nofree:∀y∈sc.names,y.2≠.free
variable{sc:Scope}
def cP{N P:Vx}(h:N.Nodup/\(∀x∈P,sc.names.lookup x=some .local\/sc.names.lookup x=some .cell)/\∀y∈sc.names,y.2≠.free)(a:sc.kind=.function:=by rfl)(b:sc.isCoroutine=false:=by rfl)(c:sc.isGenerator=false:=by rfl)(d:N.take P.length=P:=by rfl):ax N P sc:=⟨a,b,c,h.1,d,h.2.1,h.2.2⟩
variable{n:Nat}
variable{kindOf:Str->Option NameKind}
def oY{x:Str}:∀{binds:List (Str×Vq)}{m:Str->Option Vq},(∀v,(x,v)∉binds)->bindL kindOf binds m x=m x
 |[],_,_=>rfl
 |(n,v)::r,m,h=>by
  unfold bindL;rw[oY λw q=>h w<|Mn _ q];split
  ·have:x≠n:=by rintro rfl;exact h v Mf
   simp[this]
  ·rfl
def oZ{x:Str}:∀{binds:List (Str×Vq)}{m:Str->Option Vq},(∀v,(x,v)∉binds)->bindC kindOf binds m x=m x
 |[],_,_=>rfl
 |(n,v)::r,m,h=>by
  unfold bindC;rw[oZ λw q=>h w<|Mn _ q];split
  ·rfl
  ·have:x≠n:=by rintro rfl;exact h v Mf
   simp[this]
def o0{x:Str}{v:Vq}:∀{P:Vx}{vs:List Vq}{i:Nat}{m:Str->Option Vq},P.Nodup->P[i]?=some x->vs[i]?=some v->kindOf x=some .local->
  bindL kindOf (P.zip vs) m x=some v
 |[],_,_,_,_,h,_,_=>by simp at h
 |_::_,[],_,_,_,_,h,_=>by simp at h
 |p::P,w::vs,0,m,nd,t,r,d=>by
  simp at t r;subst t;subst r;show bindL kindOf ((p,w)::P.zip vs) m p=_;unfold bindL;rw[oY λv q=>(NH.mp nd).1 (N0 q).1,g_ d];simp
 |p::P,w::vs,i+1,m,nd,t,r,d=>by
  show bindL kindOf ((p,w)::P.zip vs) m x=_;unfold bindL;exact o0 (i:=i) (NH.mp nd).2 (by simpa using t) (by simpa using r) d
def o6{x:Str}{v:Vq}:∀{P:Vx}{vs:List Vq}{i:Nat}{m:Str->Option Vq},P.Nodup->P[i]?=some x->vs[i]?=some v->kindOf x≠some .local->
  bindC kindOf (P.zip vs) m x=some v
 |[],_,_,_,_,h,_,_=>by simp at h
 |_::_,[],_,_,_,_,h,_=>by simp at h
 |p::P,w::vs,0,m,nd,t,r,d=>by
  simp at t r;subst t;subst r;show bindC kindOf ((p,w)::P.zip vs) m p=_;unfold bindC;rw[oZ λv q=>(NH.mp nd).1 (N0 q).1,f_ d];simp
 |p::P,w::vs,i+1,m,nd,t,r,d=>by
  show bindC kindOf ((p,w)::P.zip vs) m x=_;unfold bindC;exact o6 (i:=i) (NH.mp nd).2 (by simpa using t) (by simpa using r) d
def start(N:Vx)(vs:VA):St:=vs.map some++List.replicate (N.length-vs.length) none
def oM(CX:y9)(P:Vt)(w:Vu)(K:ZF)(mg:Str->Option Vq)(base:Heap)(N:Vx)(t:Str)(scope:Scope)(f:Vr)(q:Vq)(A:Vv)(outer:List Env)(s:Vs)(H:Hp)(E:XK):Cx where
 prog:=P
 w:=w
 K:=K
 mg:=mg
 base:=base
 A:=A.deeper (envOfC t scope s.heap.objs.size f q)
 N:=N
 s₀:=s
 H₀:=H
 env:=envOfC t scope s.heap.objs.size f q
 outer:=outer
 stack:=envOfC t scope s.heap.objs.size f q::outer
 ex:=[]
 calm:=true
 fn:=λ_=>true
 pn:=[]
 xe:=λe i=>wpAny (model P w) (A.deeper<|envOfC t scope s.heap.objs.size f q) (leaving (envOfC t scope s.heap.objs.size f q) e) (λ_ z=>CX outer H s E e z) (λO z=>CX outer H s E O z) i
def so{x:Str}(h:sc.names.lookup x=some .cell):∃c,(cellsFrom n sc.names []).lookup x=some c:=by
 have q:=PySem.W.cellsFrom_some sc.names n [] (.inl h);exact Option.isSome_iff_exists.mp q
def yk{CX:y9}{P:Vt}{w:Vu}{K:ZF}{mg:Str->Option Vq}{base:Heap}{N ps:Vx}{t:Str}{scope:Scope}{f:Vr}{Y:Vq}{A:Vv}{outer:List Env}{s R:Vs}{H:Hp}{E:XK}{us:List Vq}{vs:VA}
  (S:ax N ps scope) (hd:A.handled=none) (O:RH P w K mg base A outer s H) (hl:vs.length=ps.length) (r:Qb vs us)
  (x:InCallC s s.heap.objs.size (bindL (envOfC t scope s.heap.objs.size f Y).kindOf (ps.zip us) λ_=>none) (cellsFrom (s.heap.objs.size+1) scope.names []) (bindC (envOfC t scope s.heap.objs.size f Y).kindOf (ps.zip us) λ_=>none) R) :
  P6 (oM CX P w K mg base N t scope f Y A outer s H E) [] (start N vs) H R:=by
 have K':ps.length<=N.length:=by have:=e_ List.length S.pre;rw[Mp]at this;lia
 obtain⟨m,tk,rfl,Z⟩:=x.done;have J:∀b:Vr,b∉(oM CX P w K mg base N t scope f Y A outer s H E).ex:=λb z=>absurd (show b∈([]:List Vr)from z) (by simp);refine⟨⟨O.mod,S.kind,U,U,Ml _,λy z c m d=>?_,λy I=>?_,λy c _ h=>?_,λ_=>hd,Around.frames_deeper O.frames,.inr ⟨U,U⟩,λb z=>absurd z<|J b,O.bs,O.bsz,λb _ _=>J b,λb z=>absurd z<|J b,O.funs,O.frf⟩,
  rfl,O.bare,Un.kept Z,⟨_,x.toInCall.ns,λi y v m d h3=>?_⟩,λy c h=>⟨_,x.cell y c h⟩,O.hok.fresh<|Ml _,λy c h=>?_,λp D=>absurd (show p∈([]:List (Vr×Obj))from D) (by simp),O.hok.kept Z,?_⟩
 ·exact name_of_addr x.apart (NC m) (NC d)
 ·have I:scope.names.lookup y=some .cell\/scope.names.lookup y=some .free:=I;rcases I with I|I
  ·exact so I
  ·exact absurd U (S.nofree _<|NC I)
 ·exact NX (x.above y c<|NC h)
 ·have G:i<vs.length:=by
   unfold start at d;by_cases G:i<vs.length
   ·exact G
   ·rw[Nj<|by simpa using G]at d;rw[List.getElem?_replicate]at d;split at d<;>cases d
  have B:vs[i]?=some v:=by
   unfold start at d;rw[Nk (by simpa using G),Mt]at d;cases e:vs[i]? with
   |none=>rw[e]at d;cases d
   |some a=>rw[e]at d;cases d;rfl
  obtain⟨u,j,rv⟩:=r.get B;have D:ps[i]?=some y:=by
   rw[<-S.pre,Ud zo];exact m
  have L:ps.Nodup:=by rw[<-S.pre];exact S.nd.sublist (Ts _ _)
  refine⟨u,rv,?_⟩;rcases S.par y (Mr D)with k|k
  ·exact .inl ⟨k,o0 L D j k⟩
  ·obtain⟨c,e⟩:=so (n:=s.heap.objs.size+1) k;refine .inr ⟨.inl k,c,e,?_⟩;have q:=x.cell y c e;rw[o6 L D j<|by show scope.names.lookup y≠_;rw[k];decide]at q;exact q
 ·exact O.hok.fresh (NX<|x.above y c<|NC h)
 ·unfold start;show _=N.length;rw[Md,Me,Nu];lia
def zA{CX:y9}{P:Vt}{w:Vu}{K:ZF}{mg:Str->Option Vq}{base:Heap}{k:Nat}{f:Vr}{m i:Str}{params:Arguments}{d:List Stmt}{scope:Scope}{dV kV doc pm Of ct oc:Vq}{an od:Option Vr}
  {Wl:Array (Option Vq)} {N ps:Vx} {sp:Sp} (lk:K.lookup f=some ⟨oc,od,.func<|PySem.W.fnOf m i params d scope dV kV doc pm an Of ct,Wl⟩) (V9:PySem.W.codeIn K Of i=true) (S:ax N ps scope)
  (len:∀vs H Q E,sp vs H Q E->vs.length=ps.length)
  (Wg:∀(A:Vv)(outer:List Env)(s:Vs)(H:Hp)(vs:VA)(Q:VK)(E:XK),P9 k (A.deeper<|envOfC i scope s.heap.objs.size f Of)->sp vs H Q E->
   ∃t,Rb (oM CX P w K mg base N i scope f Of A outer s H E) d t/\t {nx:=λ_ O=>Q .non O,rt:=Q} (start N vs) H) :
  P7 P w K mg base CX (k+1) f (PySem.W.fnOf m i params d scope dV kV doc pm an Of ct) ps sp:=by
 refine⟨len,λA outer s H args us vs Q E hr Y B r Ww=>?_⟩;have hl:=len _ _ _ _ Ww;have KX:K.In s.heap:=Y.mod.kin.keeps λb o e=>(Y.bs b o e).1;have G:s.heap.NoLimit:=Y.mod.nolimit.keeps λb o e=>(Y.bs b o e).1;have D:∀y∈ps.zip us,scope.names.lookup y.1=some .local\/(scope.names.lookup y.1=some .cell/\((cellsFrom (s.heap.objs.size+1) scope.names []).lookup y.1).isSome=true):=λ⟨n,v⟩hy=>by
  rcases S.par n (N0 hy).1 with q|q
  ·exact .inl q
  ·exact .inr ⟨q,PySem.W.cellsFrom_some _ _ _<|.inl q⟩
 refine codeAny_call_function hr.depth (KX _ _ lk) U S.co S.gen U (PySem.W.codeRec_of KX V9) (B _ _ _ _ ?_);refine wpAny_newFunctionEnv_cells S.kind D λR he j x=>?_;subst he;refine⟨G.keeps x.toInCall.keep,codeAny_func ?_⟩;obtain⟨t,ht,hq⟩:=Wg A outer s H vs Q E (hr.deeper _) Ww;have I:P6 (oM CX P w K mg base N i scope f Of A outer s H E) [] (start N vs) H j:=yk S hr.hd Y hl r x;refine j_ (ht [] j (start N vs) H _ I hq) (λfl p L=>?_) λe p L=>L;have B':∀{z:St}{O:Hp}{v:V}{u:Vq},P6 (oM CX P w K mg base N i scope f Of A outer s H E) [] z O p->Qd v u->Q v O->CE outer P w H s Q u p:=
  λ{z O v u}J Z q=>⟨v,O,J.os,J.bare,J.base,J.hok,Z,q⟩
 cases fl with
 |ret u=>
  obtain⟨v,z,O,J,Z,q⟩:=L;exact B' J Z q
 |next=>
  obtain⟨z,O,J,q⟩:=L;exact B' (v:=V.non) (u:=Value.none) J U q
 |brk=>
  obtain⟨_,_,_,q⟩:=L;exact False.elim q
 |cont=>
  obtain⟨_,_,_,q⟩:=L;exact False.elim q
section
variable{X:Cx}{x:Str}{p o:Pos}{e:Expr}{i:List Expr}{t:TA}{id T:String}{r:VA->Hp->VK->Prop}
def Lz(r:VA->Hp->VK->Prop)(t:TA):TE:=λσ H Q=>t σ H λvs q=>r vs q Q
def aC(Y:eD X (.builtin id) r)(J:Gl X x)(Z:X.mg x=none)(m:bootBuiltins x=some (.builtin id))(L:PA X (e::i) t)(d:x≠"__name__":=by decide)(D:(x==("__debug__":Str))=false:=by decide)
  (G:starEach (e::i) X.env=(false,eval e X.env)::starEach i X.env:=by rfl) (O:(backTo o<|starEach i X.env).any (·.1)=false:=by rfl):PE X (.Call (.Name x p) (e::i) [] o) (Lz r t):=by
 refine⟨?_⟩;intro pins s σ H Q I h;refine q_ (i4 I J Z m ?_ d D);exact Tw (bL (L o pins s σ H _ I h) λus R⟨vs,q,z,N,j⟩=>Y pins R σ q vs us Q z N j) G O
def aU(Y:eD X (.type T) r)(J:Gl X x)(Z:X.mg x=none)(m:bootBuiltins x=some (.type T))(L:PA X (e::i) t)(d:x≠"__name__":=by decide)(D:(x==("__debug__":Str))=false:=by decide)
  (G:starEach (e::i) X.env=(false,eval e X.env)::starEach i X.env:=by rfl) (O:(backTo o<|starEach i X.env).any (·.1)=false:=by rfl):PE X (.Call (.Name x p) (e::i) [] o) (Lz r t):=by
 refine⟨?_⟩;intro pins s σ H Q I h;refine q_ (i4 I J Z m ?_ d D);exact Nq (bL (L o pins s σ H _ I h) λus R⟨vs,q,z,N,j⟩=>Y pins R σ q vs us Q z N j) G O
end
end L2
namespace HT
open PySem PyProof.Rows
section
variable{f:Vt}{w:Vu}{A:Vv}{E:Vq->Vs->Prop}{s:Vs}
variable{t b:Vr}
def cat_tup{vs q:List Vq}{Q:Vq->Vs->Prop}(j:IsTup s.heap t vs.toArray)(v:IsTup s.heap b q.toArray)(r:vs≠[])
  (m:q=[]->Q (.ref t) s) (p:q≠[]->Q (.ref s.heap.objs.size) {s with heap:=s.heap.push {cls:=.type "tuple",data:=.seq (vs++q).toArray} })
  (hsz:vs.length+q.length<=sizeLine):wpAny (model f w) A (binaryOp .Add (.ref t)<|.ref b) Q E s:=by
 obtain⟨⟨cls,dd,data,sl⟩,L,o,n,i⟩:=id j;obtain⟨⟨Z,z,G,I⟩,D,J,d,O⟩:=id v;simp only at o i J O;subst o i J O;have e:vs.toArray++q.toArray=(vs++q).toArray:=by simp
 by_cases Y:q=[]
 ·exact concat_meets ⟨_,L,U⟩ ⟨_,D,U⟩ noFill_tuple_add seq_tuple_add S1 SX (SW _ _)
   (tuple_addW1 t b vs.toArray q.toArray n d dd z sl I (by simpa using r)<|by simp[Y]) ⟨L,D,m Y⟩
 ·refine concat_meets ⟨_,L,U⟩ ⟨_,D,U⟩ noFill_tuple_add seq_tuple_add S1 SX (SW _ _)
   (tuple_addW2 t b vs.toArray q.toArray n d dd z sl I (by simpa using r) (by simpa using Y)<|by rw[MF,MF];exact hsz) ⟨L,D,?_⟩
  rw[e];exact p Y
def sIx(n d:Nat):Option Int->Nat
 |none=>d
 |some v=>if v<0 then(v+(n:Int)).toNat else min v.toNat n
def sIx_none(n d:Nat):sIx n d none=d:=rfl
def sIx_nat(n d k:Nat):sIx n d (some (k:Int))=min k n:=by
 show(if(k:Int)<0 then((k:Int)+(n:Int)).toNat else min (k:Int).toNat n)=min k n;rw[f_ zo,Nm]
def SJ(n d:Nat)(e:d<=n)(o:Option Int):sIx n d o<=n:=by
 cases o with
 |none=>exact e
 |some v=>
  show(if v<0 then(v+(n:Int)).toNat else min v.toNat n)<=n;by_cases q:v<0
  ·rw[g_ q];lia
  ·rw[f_ q];exact L_ _ _
def R9(v:Int)(n d:Nat):(if v<0 then max (v+(n:Int)) 0 else min v (n:Int))=((sIx n d (some v):Nat):Int):=by
 show(if v<0 then max (v+(n:Int)) 0 else min v (n:Int))=(((if v<0 then(v+(n:Int)).toNat else min v.toNat n):Nat):Int);by_cases q:v<0
 ·simp only[g_ q];lia
 ·simp only[f_ q];lia
def RQ(lo q:Option Int)(n:Nat):Builtin.Slice.sliceAdjust lo q 1 (n:Int)=(((sIx n 0 lo:Nat):Int),((sIx n n q:Nat):Int)):=by
 have e:¬((1:Int)<0):=by lia
 unfold Builtin.Slice.sliceAdjust;simp only[e,Pi];refine Prod.ext ?_ ?_
 ·cases lo with
  |none=>rfl
  |some v=>exact R9 v n 0
 ·cases q with
  |none=>rfl
  |some v=>exact R9 v n n
def RR(i j:Nat):Builtin.Slice.slicePlaces (i:Int) (j:Int) 1=j-i:=by
 unfold Builtin.Slice.slicePlaces;have e:(1:Int)>0:=by lia
 simp only[e,K_,Int.ediv_one];split<;>lia
def Rg{v:Vq}{o:Option Int}{Q:Option Int->Vs->Prop}(p:IsPart v o)(h:Q o s):wpAny (model f w) A (Builtin.Slice.slicePartIndex v) Q E s:=by
 cases p with
 |none=>exact slicePart_none h
 |int i t=>exact slicePart_int h
variable{lo r:Option Int}{vl vu:Vq}{sl:Vr}
def Q3{n:Nat}{Q:Int×Int×Nat->Vs->Prop}(O:s.heap.IsSliceOf sl vl vu .none)(pl:IsPart vl lo)(I:IsPart vu r)
  (h:Q (((sIx n 0 lo:Nat):Int),1,sIx n n r-sIx n 0 lo) s):wpAny (model f w) A (Builtin.Slice.sliceApplied (.ref sl)<|pure (n:Int)) Q E s:=by
 obtain⟨os,q,D,z⟩:=id O;unfold Builtin.Slice.sliceApplied Builtin.Slice.sliceFields;refine a_ (a_<|n_ q z (x:=vl) U<|a_<|n_ q z (x:=vu) U<|a_<|n_ q z (x:=.none) U<|d_ ?_);refine a_ (slicePart_none ?_);show wpAny _ _ (if((1:Int)==0)=true then _ else _) _ _ s;rw[f_ zd];refine a_ (Rg pl<|a_<|Rg I<|a_<|d_ ?_);show wpAny _ _ (match Builtin.Slice.sliceAdjust lo r 1 (n:Int)with|(lo,r)=>pure (lo,(1:Int),Builtin.Slice.slicePlaces lo r 1)) _ _ s;rw[RQ lo r n];show wpAny _ _ (pure (((sIx n 0 lo:Nat):Int),(1:Int),Builtin.Slice.slicePlaces ((sIx n 0 lo:Nat):Int) ((sIx n n r:Nat):Int) 1)) _ _ s;rw[RR];exact d_ h
def Sm(o:Array Vq)(i k:Nat):((List.range k).filterMap λ(m:Nat)=>o[((i:Int)+(m:Int)*1).toNat]?).toArray=((o.toList.drop i).take k).toArray:=by
 have e:(λ(m:Nat)=>o[((i:Int)+(m:Int)*1).toNat]?)=λm=>o[i+m]?:=by
  funext m;have:((i:Int)+(m:Int)*1).toNat=i+m:=by lia
  rw[this]
 rw[e];have:=pick_run o i k;rw[List.filterMap_map]at this;have e2:((λx=>o[x]?)∘λx=>i+x)=λm=>o[i+m]?:=rfl;rw[e2]at this;rw[this]
def getItem_tuple_cut{z:Array Vq}{Q:Vq->Vs->Prop}(I:IsTup s.heap t z)(L:s.heap.IsSliceOf sl vl vu .none)(pl:IsPart vl lo)(pu:IsPart vu r)
  (Z:¬(sIx z.size 0 lo=0/\sIx z.size z.size r=z.size))
  (h:Q (.ref s.heap.objs.size) {s with heap:=s.heap.push {cls:=.type "tuple",data:=.seq ((z.toList.drop<|sIx z.size 0 lo).take<|sIx z.size z.size r-sIx z.size 0 lo).toArray} })
  (hsz:z.size<=sizeLine):wpAny (model f w) A (getItem (.ref t)<|.ref sl) Q E s:=by
 have O:sizeOk (.seq ((z.toList.drop<|sIx z.size 0 lo).take<|sIx z.size z.size r-sIx z.size 0 lo).toArray):=by
  show((z.toList.drop<|sIx z.size 0 lo).take<|sIx z.size z.size r-sIx z.size 0 lo).toArray.size<=sizeLine;rw[MF,Mp,MY,NE];lia
 have hj:sIx z.size z.size r<=z.size:=SJ _ _ (Ml _) r;obtain⟨os,G,J,YY⟩:=id L;have D:s.TypeIs (.ref sl) "slice":=⟨os,G,J⟩;unfold getItem;try with_reducible refine p_ ?_
 first|refine a_ (d_ ?_)|skip
 refine a_ (wpAny_sequenceKey I.typeIs zd ?_);refine a_ (J_ (name:=Str.ofString "__getitem__") I.typeIs Tv
  (S_ Tv I.typeIs entry_tuple_getitem ?_<|args_tuple_getitem _ _))
 show wpAny _ _ (Builtin.Tuple.tupleItemsOf (.ref t)>>=_) _ _ s;refine a_ (tupleItemsOf_ I ?_);refine a_ (wpAny_typeOf D ?_);rw[g_ zd];refine a_ (Q3 L pl pu ?_);have Y:¬((((sIx z.size 0 lo:Nat):Int)==0&&(1:Int)==1&&(sIx z.size z.size r-sIx z.size 0 lo)==z.size)=true):=by
  intro q;rw[Nh,Nh]at q;have e:((sIx z.size 0 lo:Nat):Int)=0:=eq_of_beq q.1.1;have o:sIx z.size z.size r-sIx z.size 0 lo=z.size:=eq_of_beq q.2;exact Z ⟨zo,zo⟩
 show wpAny _ _ (if(((sIx z.size 0 lo:Nat):Int)==0&&(1:Int)==1&&(sIx z.size z.size r-sIx z.size 0 lo)==z.size)=true then _ else _) _ _ s;rw[f_ Y,Sm];first
  |exact a_ (m:=Builtin.Tuple.tupleExact _) (r_ (d_ ⟨_,U,d_ h⟩) O)
  |exact a_ (m:=Builtin.Tuple.tupleExact _) (r_ (a_<|d_<|d_ ⟨_,U,d_ h⟩) O)
  |exact a_ (a_ (m:=Builtin.Tuple.tupleExact _)<|r_ (d_<|d_ ⟨_,U,d_ h⟩) O)
  |exact a_ (a_ (m:=Builtin.Tuple.tupleExact _)<|r_ (d_ ⟨_,U,d_ h⟩) O)
end
end HT
namespace L2
open PySem PySem.Spec PyProof.Rows
abbrev TO:=St->Hp->(Option Int->Hp->Prop)->Prop
structure PO(X:Cx)(e:Option Expr)(t:TO):Prop where
 run:∀(pins:List (Vr×Obj))(s:Vs)(σ:St)(H:Hp)(Q:Option Int->Hp->Prop),P6 X pins σ H s->t σ H Q->
  wpAny (model X.prog X.w) X.A (evalPart e X.env) (λu s'=>∃o H',P6 X pins σ H' s'/\IsPart u o/\Q o H') X.xe s
instance {X:Cx}{e:Option Expr}{t:TO}:CoeFun (PO X e t) λ_=>∀(i:List (Vr×Obj))(s:Vs)(r:St)(H:Hp)(Q:Option Int->Hp->Prop),P6 X i r H s->t r H Q->
  wpAny (model X.prog X.w) X.A (evalPart e X.env) (λu d=>∃o q,P6 X i r q d/\IsPart u o/\Q o q) X.xe s:=⟨PO.run⟩
def C0:TO:=λ_ H Q=>Q none H
inductive zB(Q:Option Int->Hp->Prop)(x:V)(e:Hp):Prop
 |mk(i:_):x=.int i->Q (some i) e->zB Q x e
def zC(t:TE):TO:=λe H Q=>t e H λx q=>zB Q x q
section
variable{X:Cx}{e:Expr}{m:TE}{lo d:Option Expr}{tl j:TO}{N f:Pos}
def fP:PO X none C0:=by
 refine⟨?_⟩;intro t s o H Q I h;rw[evalPart_none];exact d_ ⟨none,H,I,.none,h⟩
def cz(h:PE X e m):PO X (some e) (zC m):=by
 refine⟨?_⟩;intro o s r H Q I L;rw[evalPart_some];refine bL (h o s r H _ I L) λu J z=>?_;obtain⟨x,O,D,G,Y⟩:=z;obtain⟨i,rfl,q⟩:=Y;obtain⟨t,rfl⟩:=G;exact⟨some i,O,D,.int i t,q⟩
def J0(X:Cx)(r:V->Option Int->Option Int->Hp->VK->Prop):Prop:=
 ∀(t:List (Vr×Obj))(s:Vs)(o:St)(H:Hp)(x:V)(v z O:Vq)(lo d:Option Int)(q:Vr)(Q:VK),P6 X t o H s->Qd x v->s.heap.IsSliceOf q z O .none->IsPart z lo->IsPart O d->r x lo d H Q->
  ∃T id,typeLookup (.type T) "__getitem__"=pure (some<|.builtin id)/\s.TypeIs v T/\wpAny (model X.prog X.w) X.A (getItem v<|.ref q) (EP X t o Q) X.xe s
def LA(r:V->Option Int->Option Int->Hp->VK->Prop)(m:TE)(tl j:TO):TE:=λt H Q=>m t H λx q=>tl t q λl z=>j t z λu O=>r x l u O Q
def cI{r:V->Option Int->Option Int->Hp->VK->Prop}(hr:J0 X r)(p:PE X e m)(C:PO X lo tl)(B:PO X d j):PE X (.Subscript e (.Slice lo d none f) N) (LA r m tl j):=by
 refine⟨?_⟩;intro t s o H Q I h;refine Subscript_ (bL (p t s o H _ I h) λv s1 O=>?_);obtain⟨x,G,Z,r1,q1⟩:=O;refine wpAny_Slice (bL (C t s1 o G _ Z q1) λD s2⟨l,J,i,pl,q2⟩=>bL (B t s2 o J _ i q2) λL z O=>?_);obtain⟨u,Y,I3,pu,q3⟩:=O;rw[evalPart_none];refine d_ ?_;have I4:P6 X t o Y {z with heap:=z.heap.push {cls:=.type "slice",data:=.fields #[D,L,.none]} }:=I3.kept (t':=z.toks) λb ob q=>Mh _ q;obtain⟨T,id,hT,M,R⟩:=hr t {z with heap:=z.heap.push {cls:=.type "slice",data:=.fields #[D,L,.none]} } o Y x v D L l u z.heap.objs.size Q I4 r1 (Heap.IsSliceOf.new ..) pl pu q3;show wpAny (model X.prog X.w) X.A (subscriptTail e (.Slice lo d none f) v<|.ref z.heap.objs.size) (EP X t o Q) X.xe {z with heap:=z.heap.push {cls:=.type "slice",data:=.fields #[D,L,.none]} };exact tail_any (ops:=[.ref z.heap.objs.size,v]) M hT R (by with_unfolding_all rfl)
def i8(t:VA)(lo d:Option Int):VA:=(t.drop<|HT.sIx t.length 0 lo).take (HT.sIx t.length t.length d-HT.sIx t.length 0 lo)
def lK(t:VA)(lo d:Option Int):(i8 t lo d).length<=t.length:=by
 unfold i8;rw[Mp,MY];lia
inductive Is(K:ZF)(x:V)(lo:Option Int)(d:Option Int)(H:Hp)(Q:VK):Prop
 |mk(a t:_):x=.ref a->P5 K H a t->¬(HT.sIx t.length 0 lo=0/\HT.sIx t.length t.length d=t.length)->(∀p,H p=none->Q (.ref p) (aB H p<|.tup<|i8 t lo d))->Is K x lo d H Q
def zD:J0 X (Is X.K):=by
 intro i s p H x v vl vu lo d sl Q I rx Y pl Z h;obtain⟨a,t,rfl,J,G,q⟩:=h;cases rx;obtain⟨L,r,O,D⟩:=I.tuple J;have z:L.toArray.size=t.length:=by rw[MF];exact r.length.symm
 refine⟨"tuple",_,PyProof.Rows.slot_tuple_getitem.lookup,O.typeIs,?_⟩;refine HT.getItem_tuple_cut O Y pl Z (by rw[z];exact G) ?_ (by rw[z];exact D);rw[z];refine⟨.ref s.heap.objs.size,_,I.laid (t':=s.toks) (o:=.tup (i8 t lo d)) (λb ob q=>Mh _ q) (Ml _) ?_,U,q _<|I.hok.fresh<|Ml _⟩;exact⟨MP (lK t lo d) D,_,(r.drop<|HT.sIx t.length 0 lo).take<|HT.sIx t.length t.length d-HT.sIx t.length 0 lo,Rl.new _ _⟩
inductive EZ(K:ZF)(x:V)(y:V)(H:Hp)(Q:VK):Prop
 |mk(a b o t:_):x=.ref a->y=.ref b->P5 K H a o->P5 K H b t->o≠[]->o.length+t.length<=sizeLine->(t=[]->Q (.ref a) H)->(t≠[]->∀p,H p=none->Q (.ref p) (aB H p<|.tup<|o++t))->EZ K x y H Q
def Qb.nil_iff{o:VA}{t:List Vq}(r:Qb o t):t=[]↔o=[]:=by
 cases r with
 |nil=>simp
 |cons _ _=>simp
def lW:fM X (binaryOp .Add) (EZ X.K):=by
 intro t s C H x y v u Q I rx ry h;obtain⟨a,b,p,R,rfl,rfl,Y,G,J,L,i,r⟩:=h;cases rx;cases ry;obtain⟨f',D,Z,_⟩:=I.tuple Y;obtain⟨Wx,O,f,_⟩:=I.tuple G;refine HT.cat_tup Z f (λz=>J<|D.nil_iff.mp z) (λz=>⟨.ref a,H,I,U,i<|O.nil_iff.mp z⟩) (λz=>?_) (by rw[<-D.length,<-O.length];exact L);refine⟨.ref s.heap.objs.size,_,I.laid (t':=s.toks) (o:=.tup (p++R)) (λb ob q=>Mh _ q) (Ml _) ?_,U,r (λw=>z<|O.nil_iff.mpr w) _<|I.hok.fresh<|Ml _⟩;exact⟨by rw[Md];exact L,_,D.append O,Rl.new _ _⟩
end
def FZ(n:Nat)(i:Int):Option Nat:=if 0<=i then(if i<n then some i.toNat else none)else if -(n:Int)<=i then some (i+n).toNat else none
def oH{α:Type}(e:List α)(i:Int):Option α:=(FZ e.length i).bind λj=>e[j]?
variable{j:Nat}{i:Int}{n:Nat}
def wP(h:FZ n i=some j):seqIndex? i n=some j/\j<n/\-(n:Int)<=i/\i<n:=by
 unfold FZ at h;by_cases q:0<=i
 ·rw[g_ q]at h;by_cases t:i<n
  ·rw[g_ t]at h;have e:i.toNat=j:=MN h;exact⟨by rw[seqIndex_of q t,e],zo,zo,t⟩
  ·rw[f_ t]at h;cases h
 ·rw[f_ q]at h;by_cases t:-(n:Int)<=i
  ·rw[g_ t]at h;have e:(i+n).toNat=j:=MN h;exact⟨by rw[seqIndex_neg zo t,e],zo,t,zo⟩
  ·rw[f_ t]at h;cases h
def pZ{α:Type}{t:List α}{v:α}(h:oH t i=some v):∃j,seqIndex? i t.length=some j/\t[j]?=some v/\j<t.length/\-(t.length:Int)<=i/\i<t.length:=by
 unfold oH at h;cases e:FZ t.length i with
 |none=>rw[e]at h;cases h
 |some j=>
  rw[e]at h;obtain⟨o,r,q,z⟩:=wP e;exact⟨j,o,h,r,q,z⟩
def aI{α:Type}{xs:List α}{v:α}(h:xs[j]?=some v):oH xs (j:Int)=some v:=by
 have q:j<xs.length:=(Mc.mp h).1;have e:FZ xs.length (j:Int)=some j:=by
  unfold FZ;rw[g_ zo,g_ zo];simp
 unfold oH;rw[e];exact h
def p8(b:Expr):Prop:=∀o i,subscripted b false o i=operate [o,i] (getItem o i)
def HJ(X:Cx)(r:R2):Prop:=
 ∀(value q:Expr)(e:List (Vr×Obj))(s:Vs)(t:St)(H:Hp)(x y:V)(v u:Vq)(Q:VK),P6 X e t H s->Qd x v->Qd y u->r x y H Q->
  subscripted q false v u=operate [v,u] (getItem v u)->wpAny (model X.prog X.w) X.A (subscriptTail value q v u) (EP X e t Q) X.xe s
def Iu(X:Cx)(id:String)(r:V->VA->Hp->VK->Prop):Prop:=
 ∀(e:List (Vr×Obj))(s:Vs)(d:St)(H:Hp)(x:V)(o:VA)(v:Vq)(t:List Vq)(Q:VK),P6 X e d H s->Qd x v->Qb o t->r x o H Q->
  wpAny (model X.prog X.w) X.A (call (.builtin id) (v::t)) (EP X e d Q) X.xe s
section
variable{X:Cx}{a b:Expr}{M B:TE}{pos:Pos}
def fw{r:R2}(hr:HJ X r)(D:PE X a M)(L:PE X b B)(Y:p8 b:=by intro _ _;rfl):PE X (.Subscript a b pos) (EV r M B):=by
 refine⟨?_⟩;intro d s R H Q I h;exact Subscript_ (FW D L I h λv u Z x y z O G J q=>hr a b d Z R z x y v u Q O G J q<|Y _ _)
inductive C1(K:ZF)(x:V)(y:V)(H:Hp)(Q:VK):Prop
 |mk(p m i v:_):x=.ref p->y=.int i->P8 K H p m->oH m i=some v->Q v H->C1 K x y H Q
inductive C3(K:ZF)(x:V)(y:V)(H:Hp)(Q:VK):Prop
 |mk(p m i v:_):x=.ref p->y=.int i->P5 K H p m->oH m i=some v->Q v H->C3 K x y H Q
inductive Iv(x:V)(y:V)(H:Hp)(Q:VK):Prop
 |mk(z i c:_):x=.str z->y=.int i->z.length<=sizeLine->oH z.cps.toList i=some c->Q (.str ⟨#[c]⟩) H->Iv x y H Q
def wQ:HJ X (C1 X.K):=by
 intro value VH d s R H x y v u Q I rx ry h Y;obtain⟨p,m,i,z,rfl,rfl,C,f,q⟩:=h;cases rx;obtain⟨t,rfl⟩:=ry;obtain⟨J,r,pl,hz⟩:=I.list C;obtain⟨j,e,o,h3,Z,h5⟩:=pZ f;obtain⟨w,D,G⟩:=r.get o;have N:=r.length;have hn:=kE;have B':EP X d R Q w s:=⟨z,H,I,G,q⟩;by_cases L:0<=i
 ·have O:i.toNat=j:=by
   rw[seqIndex_of L h5]at e;exact MN e
  exact item_listR pl.isList L zo (by rw[O];simpa using D) B' Y
 ·have O:(i+(J.toArray.size:Int)).toNat=j:=by
   rw[seqIndex_neg zo Z]at e;rw[MF,<-N];exact MN e
  exact subscriptTail_builtinR (x:=w) pl.isList.typeIs slot_list_getitem.lookup
   (wpAny_getItem_list_neg (Q:=λr s'=>r=w/\EP X d R Q r s') pl.isList zo (by rw[MF]<;>lia) zo (by rw[O];simpa using D) ⟨U,B'⟩) Y
def zE:HJ X (C3 X.K):=by
 intro value VH d s R H x y v u Q I Z ry h J;obtain⟨p,m,i,z,rfl,rfl,G,L,q⟩:=h;cases Z;obtain⟨t,rfl⟩:=ry;obtain⟨f',r,pl,hz⟩:=I.tuple G;obtain⟨j,e,o,N,h4,h5⟩:=pZ L;obtain⟨w,D,O⟩:=r.get o;have Y:=r.length;have C:=kE;have B':EP X d R Q w s:=⟨z,H,I,O,q⟩;exact subscriptTail_builtinR (x:=w) pl.typeIs slot_tuple_getitem.lookup
  (getItem_tuple (j:=j) (Q:=λr f=>r=w/\EP X d R Q r f) pl zo zo (by rw[MF,<-Y];exact e) (by simpa using D) ⟨U,B'⟩) J
variable{t:TE}{e:Expr}
def aV(q:PE X e t)(z:starEach [e] X.env=(false,eval e X.env)::starEach [] X.env:=by rfl):PA X [e] (dw t oK):=be q bN z
variable{t2:TE}
def bj{e e2:Expr}(q:PE X e t)(o:PE X e2 t2)(z:starEach [e,e2] X.env=(false,eval e X.env)::starEach [e2] X.env:=by rfl)(O:starEach [e2] X.env=(false,eval e2 X.env)::starEach [] X.env:=by rfl):PA X [e,e2] (dw t<|dw t2 oK):=be q (be o bN O) z
variable{t3:TE}
def du{e e2 q:Expr}(z:PE X e t)(o:PE X e2 t2)(r:PE X q t3)(O:starEach [e,e2,q] X.env=(false,eval e X.env)::starEach [e2,q] X.env:=by rfl)(I:starEach [e2,q] X.env=(false,eval e2 X.env)::starEach [q] X.env:=by rfl)(D:starEach [q] X.env=(false,eval q X.env)::starEach [] X.env:=by rfl):PA X [e,e2,q] (dw t<|dw t2<|dw t3 oK):=be z (be o (be r bN D) I) O
variable{t4:TE}
def jF{e e2 q e4:Expr}(z:PE X e t)(o:PE X e2 t2)(r:PE X q t3)(O:PE X e4 t4)(I:starEach [e,e2,q,e4] X.env=(false,eval e X.env)::starEach [e2,q,e4] X.env:=by rfl)(D:starEach [e2,q,e4] X.env=(false,eval e2 X.env)::starEach [q,e4] X.env:=by rfl)(L:starEach [q,e4] X.env=(false,eval q X.env)::starEach [e4] X.env:=by rfl)(Y:starEach [e4] X.env=(false,eval e4 X.env)::starEach [] X.env:=by rfl):PA X [e,e2,q,e4] (dw t<|dw t2<|dw t3<|dw t4 oK):=be z (be o (be r (be O bN Y) L) D) I
def HK{e e2 z e4 q:Expr}{t t2 t3 t4 O:TE}(I:PE X e t)(o:PE X e2 t2)(r:PE X z t3)(D:PE X e4 t4)(L:PE X q O)(Y:starEach [e,e2,z,e4,q] X.env=(false,eval e X.env)::starEach [e2,z,e4,q] X.env:=by rfl)(G:starEach [e2,z,e4,q] X.env=(false,eval e2 X.env)::starEach [z,e4,q] X.env:=by rfl)(J:starEach [z,e4,q] X.env=(false,eval z X.env)::starEach [e4,q] X.env:=by rfl)(Z:starEach [e4,q] X.env=(false,eval e4 X.env)::starEach [q] X.env:=by rfl)(s4:starEach [q] X.env=(false,eval q X.env)::starEach [] X.env:=by rfl):PA X [e,e2,z,e4,q] (dw t<|dw t2<|dw t3<|dw t4<|dw O oK):=be I (be o (be r (be D (be L bN s4) Z) J) G) Y
variable{p:Pos}
def cB(q:PE X a M)(z:PE X b B)(O:p8 b:=by exact λ_ _=>rfl):PE X (.Subscript a b p) (EV (C3 X.K) M B):=fw zE q z O
def eZ(q:PE X a M)(z:PE X b B)(O:p8 b:=by exact λ_ _=>rfl):PE X (.Subscript a b p) (EV (C1 X.K) M B):=fw wQ q z O
variable{x:Str}
def bP(i:Nat){o:TE}{p q:Pos}(z:X.N.Nodup)(O:PE X e o)(D:X.N[i]?=some x:=by rfl)(Y:CM X.env.scope x:=by exact Or.inl U)(L:swapsWith e (some<|.Name x q) p.line X.env=pure false:=by rfl)(I:X.fn x=true\/X.env.scope.names.lookup x=some .local:=by first|exact .inl rfl|exact .inr rfl|assumption):PS X (.Assign [.Name x q] e p) (CQ o<|mO i):=i6 z D Y O L I
def eQ(i:Nat)(q:X.N.Nodup)(O:X.N[i]?=some x:=by rfl)(I:CM X.env.scope x:=by exact Or.inl U)(z:X.fn x=true\/X.env.scope.names.lookup x=some .local:=by first|exact .inl rfl|exact .inr rfl|assumption):PG X (.Name x p) (mO i):=pU q O I z
variable{op:CmpOp}
def bY{r:R2}(O:fM X (compareOp op) r)(q:PE X a M)(z:PE X b B)(h:op≠.In:=by decide)(o:op≠.NotIn:=by decide):PT X (.Compare a [op] [b] p) (zp<|EV r M B):=cy O q z (pY _ h o)
def uC{r:R2}(O:fM X (compareOp op) r)(q:PE X a M)(z:PE X b B)(h:op≠.In:=by decide)(o:op≠.NotIn:=by decide):PE X (.Compare a [op] [b] p) (EV r M B):=fO O q z (pY _ h o)
def kF:HJ X Iv:=by
 intro value VH d s R H x y v u Q I J Z h G;obtain⟨z,i,c,rfl,rfl,N,L,q⟩:=h;obtain⟨t,rfl⟩:=J;obtain⟨C,rfl⟩:=Z;obtain⟨j,o,r,m,O,D⟩:=pZ L;have Y:z.cps.toList.length=z.length:=by simp[Str.length]
 rw[Y]at o O D;have f:=kE;exact tail_any (Tp s z t) slot_str_getitem.lookup (getItem_str (c:=c) (by
  have e1:decide (i < -(2^63:Int))=false:=c_ zo;have e2:decide (i ≥ 2^63)=false:=c_ zo;rw[e1,e2,Bool.or_false]) (by rw[o];simpa using r) ⟨.str ⟨#[c]⟩,H,I.tok _,⟨_,U⟩,q⟩) G
def uN(q:List Vq)(n j:Nat)(u:Vq):Obj.mapSeq (·.setIfInBounds j u) {cls:=.type "list",data:=.seq q.toArray n}={cls:=.type "list",data:=.seq (q.set j u).toArray n}:=by
 simp[Obj.mapSeq]
variable{m:VA}{s:Vs}{H:Hp}{R:St}{d:List (Vr×Obj)}
def P6.lst{p:Vr}(I:P6 X d R H s)(h:H p=some (.lst m)):
  ∃(q:List Vq)(n:Nat),Qb m q/\s.heap.get? p=some {cls:=.type "list",data:=.seq q.toArray n}/\m.length<=sizeLine:=by
 obtain⟨z,q,n,r,e⟩:=I.hok p _ h;exact⟨q,n,r,e,z⟩
def P6.lstUpd{p:Vr}{m o:VA}{O its':List Vq}{n z:Nat}{f:Obj->Obj}(I:P6 X d R H s)(h:H p=some (.lst m))
  (Y:s.heap.get? p=some {cls:=.type "list",data:=.seq O.toArray n}) (D:f {cls:=.type "list",data:=.seq O.toArray n}={cls:=.type "list",data:=.seq its'.toArray z}) (r:Qb o its') (G:o.length<=sizeLine) (t:Nat) :
  P6 X d R (aB H p<|.lst o) {s with heap:=s.heap.update p f,toks:=t}:=by
 have e:(s.heap.update p f).get? p=some {cls:=.type "list",data:=.seq its'.toArray z}:=by
  rw[t_ f Y (by rw[D]<;>rfl),D]
 refine I.write (x:=p) (e:=p) (by rw[h];trivial) (.inl U) (λb u L q=>(z_ _ _<|F_ L).trans q) ⟨_,e⟩ ?_;exact⟨G,its',z,r,e⟩
inductive E3(o:V)(i:V)(v:V)(H:Hp)(Q:Hp->Prop):Prop
 |mk(p m k j:_):o=.ref p->i=.int k->H p=some (.lst m)->FZ m.length k=some j->Q (aB H p<|.lst<|m.set j v)->E3 o i v H Q
def sr:Ih X E3:=by
 intro d s R H o i v ov iv u Q I ro ri rv h;obtain⟨p,m,k,j,rfl,rfl,N,hj,q⟩:=h;cases ro;obtain⟨t,rfl⟩:=ri;obtain⟨Y,n,r,D,C⟩:=I.lst N;obtain⟨f,h2,J,Z⟩:=wP hj;have O:=r.length;have hn:=kE;have L:P6 X d R (aB H p<|.lst<|m.set j v) {s with heap:=s.heap.update p (Obj.mapSeq (·.setIfInBounds j u))}:=
  I.lstUpd N D (uN Y n j u) (r.set rv j) (by rw[List.length_set];exact C) s.toks
 by_cases G:0<=k
 ·have z:k.toNat=j:=by
   rw[seqIndex_of G Z]at f;exact MN f
  exact PySem.W.ki_setAt D G zo (by rw[MF,<-O];exact Z) (by rw[z];exact⟨_,L,q⟩)
 ·have z:(k+(Y.toArray.size:Int)).toNat=j:=by
   rw[seqIndex_neg zo J]at f;rw[MF,<-O];exact MN f
  exact PySem.W.ki_setBack D zo (by rw[MF,<-O];exact J) zo (by rw[z];exact⟨_,L,q⟩)
def p9(lo q:Option Int)(n:Nat):(sliceBounds lo q none n).1=((HT.sIx n 0 lo:Nat):Int)/\(sliceBounds lo q none n).2.1=((HT.sIx n n q:Nat):Int)/\(sliceBounds lo q none n).2.2=1:=by
 refine⟨?_,?_,U⟩
 ·cases lo with
  |none=>simp[sliceBounds,HT.sIx]
  |some i=>
   simp only[sliceBounds,HT.sIx,Option.getD_none,show(1:Int)>0 by decide,K_];by_cases h:i<0
   ·simp only[h,K_]<;>lia
   ·simp only[h,Pi]<;>lia
 ·cases q with
  |none=>simp[sliceBounds,HT.sIx]
  |some i=>
   simp only[sliceBounds,HT.sIx,Option.getD_none,show(1:Int)>0 by decide,K_];by_cases h:i<0
   ·simp only[h,K_]<;>lia
   ·simp only[h,Pi]<;>lia
def oN(q:List Vq)(lo z:Option Int):slicePick q.toArray lo z none=((q.drop<|HT.sIx q.length 0 lo).take<|HT.sIx q.length q.length z-HT.sIx q.length 0 lo).toArray:=by
 obtain⟨o,r,O⟩:=p9 lo z q.toArray.size;unfold slicePick;rw[o,r,O];simp only[sliceRange_one,pick_run,MF]<;>rfl
inductive Iw(K:ZF)(x:V)(lo:Option Int)(o:Option Int)(H:Hp)(Q:VK):Prop
 |mk(a m:_):x=.ref a->P8 K H a m->(∀p,H p=none->Q (.ref p) (aB H p<|.lst<|i8 m lo o))->Iw K x lo o H Q
def iC:J0 X (Iw X.K):=by
 intro d s R H x v vl vu lo z sl Q I Z L pl J h;obtain⟨a,m,rfl,Y,q⟩:=h;cases Z;obtain⟨f',r,O,G⟩:=I.list Y;have D:=r.length;refine⟨"list",_,slot_list_getitem.lookup,O.isList.typeIs,?_⟩;refine wpAny_getItem_list_slice O.isList L pl J .none (by simp) ?_ (by rw[MF]<;>lia);rw[oN,<-D];refine⟨.ref s.heap.objs.size,_,I.laid (t':=s.toks) (o:=.lst (i8 m lo z)) (λb ob q=>Mh _ q) (Ml _) ?_,U,q _<|I.hok.fresh<|Ml _⟩;exact⟨MP (lK m lo z) G,_,0,(r.drop<|HT.sIx m.length 0 lo).take<|HT.sIx m.length m.length z-HT.sIx m.length 0 lo,MB _ U⟩
def eU:V->Bool
 |.non=>true
 |.bl _=>true
 |.int _=>true
 |.str _=>true
 |_=>false
def yl:V->V->Bool
 |.non,.non=>true
 |.bl a,.bl b=>a==b
 |.bl a,.int b=>(if a then 1 else 0)==b
 |.int a,.bl b=>a==(if b then 1 else 0)
 |.int a,.int b=>a==b
 |.str a,.str b=>a==b
 |_,_=>false
variable{u v:Vq}{A:Vv}
def F0{y x:V}(O:Qd y u)(q:Qd x v)(I:eU y=true)(z:eU x=true):SeqAt.EqAt A s u v (yl y x):=by
 cases y with
 |non=>
  cases O;cases x with
  |non=>cases q;exact SeqAt.EqAt.same _
  |bl b=>cases q;exact SeqAt.EqAt.none_bool b
  |int b=>obtain⟨t,rfl⟩:=q;exact SeqAt.EqAt.none_int b t
  |str b=>obtain⟨t,rfl⟩:=q;exact SeqAt.EqAt.none_str b t
  |_=>exact absurd (show false=true from z) MA
 |bl a=>
  cases O;cases x with
  |non=>cases q;exact SeqAt.EqAt.bool_none a
  |bl b=>cases q;exact SeqAt.EqAt.bool_bool a b
  |int b=>obtain⟨t,rfl⟩:=q;exact SeqAt.EqAt.bool_int a b t
  |str b=>obtain⟨t,rfl⟩:=q;exact SeqAt.EqAt.bool_str a b t
  |_=>exact absurd (show false=true from z) MA
 |int a=>
  obtain⟨o,rfl⟩:=O;cases x with
  |non=>cases q;exact SeqAt.EqAt.int_none a o
  |bl b=>cases q;exact SeqAt.EqAt.int_bool a o b
  |int b=>obtain⟨t,rfl⟩:=q;exact SeqAt.EqAt.int_int a o b t
  |str b=>obtain⟨t,rfl⟩:=q;exact SeqAt.EqAt.int_str a o b t
  |_=>exact absurd (show false=true from z) MA
 |str a=>
  obtain⟨o,rfl⟩:=O;cases x with
  |non=>cases q;exact SeqAt.EqAt.str_none a o
  |bl b=>cases q;exact SeqAt.EqAt.str_bool a o b
  |int b=>obtain⟨t,rfl⟩:=q;exact SeqAt.EqAt.str_int a o b t
  |str b=>obtain⟨t,rfl⟩:=q;exact SeqAt.EqAt.str_str a o b t
  |_=>exact absurd (show false=true from z) MA
 |_=>exact absurd (show false=true from I) MA
def su(x:V)(u:Vq):Bool:=match u with
 |.none=>yl .non x
 |.bool b=>yl (.bl b) x
 |.int i _=>yl (.int i) x
 |.str z _=>yl (.str z) x
 |_=>false
def uO{x y:V}(r:Qd y u)(f:eU y=true):su x u=yl y x:=by
 cases y with
 |non=>cases r;rfl
 |bl b=>cases r;rfl
 |int i=>obtain⟨t,rfl⟩:=r;rfl
 |str z=>obtain⟨t,rfl⟩:=r;rfl
 |_=>exact absurd (show false=true from f) MA
def jG{x:V}:∀{m:VA}{o:List Vq},Qb m o->m.all eU=true->o.any (su x)=m.any λy=>yl y x
 |_,_,.nil,_=>rfl
 |y::m,u::o,.cons r t,f=>by
  rw[List.all_cons,Nh]at f;rw[NZ,NZ,uO r f.1,jG t f.2]
def gr{x:V}(O:Qd x v)(z:eU x=true):∀{m:VA}{o:List Vq},Qb m o->m.all eU=true->∀u∈o,SeqAt.EqAt A s u v (su x u)
 |_,_,.nil,_=>λu q=>by cases q
 |y::m,u::o,.cons r t,f=>λI q=>by
  rw[List.all_cons,Nh]at f;rcases Mo.mp q with rfl|q
  ·rw[uO r f.1];exact F0 r O f.1 z
  ·exact gr O z t f.2 I q
def ic(x:V)(m:VA):Bool:=m.any λy=>yl y x
inductive J1(K:ZF)(neg:Bool)(x:V)(y:V)(H:Hp)(Q:VK):Prop
 |mk(p m:_):y=.ref p->(P8 K H p m\/P5 K H p m)->eU x=true->m.all eU=true->Q (.bl<|if neg then !ic x m else ic x m) H->J1 K neg x y H Q
def cC:fM X (compareOp .In) (J1 X.K false):=by
 intro d s R H x y v u Q I Y J h;obtain⟨p,m,rfl,O,L,o,q⟩:=h;cases J;rcases O with O|O
 ·obtain⟨z,r,pl,G⟩:=I.list O;refine SeqAt.in_listAt (su x) pl.isList (λw D=>gr Y L r o w<|by simpa using D) ⟨.bl _,H,I,U,?_⟩;rw[show z.toArray.any (su x)=z.any (su x)by simp,jG r o];exact q
 ·obtain⟨z,r,pl,G⟩:=I.tuple O;refine SeqAt.in_tupleAt (su x) pl (λw D=>gr Y L r o w<|by simpa using D) ⟨.bl _,H,I,U,?_⟩;rw[show z.toArray.any (su x)=z.any (su x)by simp,jG r o];exact q
def dX:fM X (compareOp .NotIn) (J1 X.K true):=by
 intro d s R H x y v u Q I Y J h;obtain⟨p,m,rfl,O,L,o,q⟩:=h;cases J;rcases O with O|O
 ·obtain⟨z,r,pl,G⟩:=I.list O;refine SeqAt.notIn_listAt (su x) pl.isList (λw D=>gr Y L r o w<|by simpa using D) ⟨.bl _,H,I,U,?_⟩;rw[show z.toArray.any (su x)=z.any (su x)by simp,jG r o];exact q
 ·obtain⟨z,r,pl,G⟩:=I.tuple O;refine SeqAt.notIn_tupleAt (su x) pl (λw D=>gr Y L r o w<|by simpa using D) ⟨.bl _,H,I,U,?_⟩;rw[show z.toArray.any (su x)=z.any (su x)by simp,jG r o];exact q
def aT:eD X (.builtin "len") (λm H Q=>∃p o,m=[.ref p]/\(P8 X.K H p o\/P5 X.K H p o)/\Q (.int o.length) H):=by
 intro d s R H m f Q I r h;obtain⟨p,o,rfl,z,q⟩:=h;obtain⟨u,rfl,G⟩:=hZ r;cases G;have J:=kE;rcases z with z|z
 ·obtain⟨L,D,pl,Y⟩:=I.list z;have O:=D.length;exact Calls.call_len_list pl.isList (by simp only[MF]<;>lia) ⟨.int o.length,H,I.tok _,⟨s.toks+1,by rw[MF,O]⟩,q⟩
 ·obtain⟨L,D,pl,Y⟩:=I.tuple z;have O:=D.length;exact len_tuple pl (by simp only[MF]<;>lia) ⟨.int o.length,H,I.tok _,⟨s.toks+1,by rw[MF,O]⟩,q⟩
def bX:eD X (.builtin "len") (λm H Q=>∃z,m=[.str z]/\z.length<=sizeLine/\Q (.int z.length) H):=by
 intro d s R H m o Q I r h;obtain⟨z,rfl,D,q⟩:=h;obtain⟨u,rfl,t,rfl⟩:=hZ r;have O:=kE;exact len_str zo ⟨.int z.length,H,I.tok _,⟨_,U⟩,q⟩
def bQ:eD X (.type "tuple") (λm H Q=>∃p f,m=[.ref p]/\((P8 X.K H p f/\∀l,H l=none->Q (.ref l) (aB H l<|.tup f))\/(P5 X.K H p f/\Q (.ref p) H))):=by
 intro d s R H m C Q I r h;obtain⟨p,f,rfl,h⟩:=h;obtain⟨u,rfl,J⟩:=hZ r;cases J;rcases h with⟨O,q⟩|⟨O,q⟩
 ·obtain⟨z,D,pl,Y⟩:=I.list O;have Z:=D.length;refine call_tuple_list pl.isList (λN kp=>?_) (by simp only[MF]<;>lia);have L:P6 X d R H {s with heap:=N}:=I.kept (t':=s.toks) kp;have G:P6 X d R (aB H N.objs.size<|.tup f) {s with heap:=N.push {cls:=.type "tuple",data:=.seq z.toArray} }:=
   L.laid (t':=s.toks) (λb o e=>Mh _ e) (Ml _) (show Qe X.prog X.w _ _ _ (.tup f)from⟨Y,z,D,Rl.new _ _⟩)
  exact⟨.ref N.objs.size,_,G,U,q _<|L.hok.fresh<|Ml _⟩
 ·obtain⟨z,D,pl,Y⟩:=I.tuple O;exact call_tuple_same pl ⟨.ref p,H,I,U,q⟩
def Kw(K:ZF)(T:String)(x:V)(H:Hp):Prop:=match x with
 |.str _=>T="str"
 |.int _=>T="int"
 |.ref p=>(T="list"/\∃m,P8 K H p m)\/(T="tuple"/\∃o,K.lookup p=some o/\o.cls=.type "tuple"/\o.dict=none) ∨
   (T="dict"/\((∃r,H p=some (.dK r))\/∃r,H p=some (.dT r)))\/(T="set"/\∃S n,H p=some (.set S n))
 |_=>False
def zF{T:String}{x:V}(I:P6 X d R H s)(r:Qd x v)(ty:Kw X.K T x H):
  s.TypeIs v T/\∀a,v=.ref a->∃O,s.heap.get? a=some O/\O.dict=none:=by
 cases x with
 |str z=>
  obtain⟨t,rfl⟩:=r;cases(show T="str" from ty);exact⟨Tp s z t,λ_ e=>nomatch e⟩
 |int i=>
  obtain⟨t,rfl⟩:=r;cases(show T="int" from ty);exact⟨typeIs_int s i t,λ_ e=>nomatch e⟩
 |ref p=>
  cases r;rcases ty with⟨rfl,m,L⟩|⟨rfl,o,q,D,f⟩|⟨rfl,q⟩|⟨rfl,S,n,q⟩
  ·obtain⟨Y,_,pl,_⟩:=I.list L;refine⟨pl.isList.typeIs,λa e=>?_⟩;cases e;obtain⟨o,n,e,c,f,_⟩:=pl;exact⟨o,e,f⟩
  ·refine⟨⟨o,I.kIn p o q,D⟩,λa e=>?_⟩;cases e;exact⟨o,I.kIn _ o q,f⟩
  ·have z:∃o,s.heap.get? p=some o/\o.ExactDict:=by
    rcases q with⟨N,q⟩|⟨N,q⟩
    ·obtain⟨_,_,_,_,o,_,_,e,ex,_⟩:=I.hok p _ q;exact⟨o,e,ex⟩
    ·obtain⟨_,_,_,_,o,_,_,e,ex,_⟩:=I.hok p _ q;exact⟨o,e,ex⟩
   obtain⟨o,e,ex⟩:=z;refine⟨⟨o,e,ex.1⟩,λa e2=>?_⟩;cases e2;exact⟨o,e,ex.2.1⟩
  ·obtain⟨o,_,_,_,e,ex,_⟩:=I.hok p _ q;refine⟨⟨o,e,ex.1⟩,λa e2=>?_⟩;cases e2;exact⟨o,e,ex.2.1⟩
 |_=>exact False.elim ty
def Kx(K:ZF)(T:String)(r:V->VA->Hp->VK->Prop)(to:TE):TE:=λR H Q=>to R H λx q=>Kw K T x q/\r x [] q Q
def LQ(K:ZF)(T:String)(r:V->VA->Hp->VK->Prop)(to:TE)(t:TA):TE:=λR H Q=>to R H λx q=>Kw K T x q/\t R q λm z=>r x m z Q
variable{o e:Expr}{es:List Expr}{to:TE}{t:TA}{C:Str}{G' VB:Pos}{T id:String}{r:V->VA->Hp->VK->Prop}
def F5(pa:PlainAttrs T)(slot:Slot T C id)(G:typeOf (.builtin id)=pure (.type "method_descriptor"))(J:Iu X id r)(Z:PE X o to)
  (L:attributeBase o C X.env (eval o X.env)=eval o X.env:=by rfl) (Y:(G'.endLine==VB.line)=true:=by rfl):PE X (.Call (.Attribute o C G') [] [] VB) (Kx X.K T r to):=by
 refine⟨?_⟩;intro d s R H Q I h;refine wpAny_Call_method0_late L Y (bL (Z d s R H _ I h) λv s1 q=>?_);obtain⟨x,D,z,O,ty,q1⟩:=q;obtain⟨f,N⟩:=zF z O ty;exact⟨T,id,pa,slot,G,f,N,NQ U<|PySem.evalArgs_none<|J d s1 R D x [] v [] Q z O .nil q1⟩
def cx(pa:PlainAttrs T)(slot:Slot T C id)(ZS:typeOf (.builtin id)=pure (.type "method_descriptor"))(hm:Iu X id r)(ho:PE X o to)(ha:PA X (e::es) t)
  (Z:attributeBase o C X.env (eval o X.env)=eval o X.env:=by rfl)
  (q:((backTo VB<|starEach (e::es) X.env).all (λx=>!x.1)&&(backToKw VB<|keywordEach [] X.env).all (λx=>x.1.isSome)
   && decide ((e::es).length+([]:List Keyword).length+(if([]:List Keyword).isEmpty then 0 else 1)<30))=true:=by rfl)
  (WZ:(G'.endLine==VB.line)=true:=by rfl) (hs:starEach (e::es) X.env=(false,eval e X.env)::starEach es X.env:=by rfl) (Xh:(backTo VB<|starEach es X.env).any (·.1)=false:=by rfl) :
  PE X (.Call (.Attribute o C G') (e::es) [] VB) (LQ X.K T r to t):=by
 refine⟨?_⟩;intro d s R H Q I h;refine wpAny_Call_method_late Z q WZ U (bL (ho d s R H _ I h) λv s1 z=>?_);obtain⟨x,Y,O,L,ty,q1⟩:=z;obtain⟨f,N⟩:=zF O L ty;refine⟨T,id,pa,slot,ZS,f,N,?_⟩;have D:=ha VB d s1 R Y _ O q1;rw[hs]at D⊢;refine NQ (by show(false||(backTo VB<|starEach es X.env).any (·.1))=false;rw[Xh]<;>rfl) (Calls.evalArgs_plain ?_);exact bL D λus s2⟨vs,G,J,r2,q2⟩=>hm d s2 R G x vs v us Q J L r2 q2
end
def LB(X:Cx)(id:String)(r:V->VA->Hp->VK->Prop):Prop:=
 ∀(e:List (Vr×Obj))(s:Vs)(d:St)(H:Hp)(x:V)(o:VA)(v:Vq)(t:List Vq)(Q:VK),P6 X e d H s->Qd x v->Qb o t->r x o H Q->
  wpAny (model X.prog X.w) X.A (call (.builtin id) (v::t)) (EP X e d Q) X.xe s
def Qb.one:∀{x:V}{e:List Vq},Qb [x] e->∃u,e=[u]/\Qd x u
 |_,_,.cons r .nil=>⟨_,U,r⟩
def Qb.zero:∀{e:List Vq},Qb [] e->e=[]
 |_,.nil=>rfl
section
variable{X:Cx}{t:List (Vr×Obj)}{o:St}{H:Hp}{s:Vs}{l b:Vr}{i ys d:VA}
def P6.lset{z its':List Vq}{n:Nat}{f:Array Vq->Array Vq}{r:Nat}(I:P6 X t o H s)(O:H l=some (.lst i))
  (e:s.heap.get? l=some {cls:=.type "list",data:=.seq z.toArray n}) (L:f z.toArray=its'.toArray) (G:Qb ys its') (J:ys.length<=sizeLine) :
  P6 X t o (aB H l<|.lst ys) {s with heap:=s.heap.update l (Obj.mapSeq f),toks:=r}:=by
 have q:=PySem.IsL.update e f;rw[L]at q;refine I.write (x:=l) (e:=l) (by rw[O];exact trivial) (.inl U) (λZ u D Y=>(z_ s.heap (Obj.mapSeq f)<|F_ D).trans Y) ⟨_,q⟩ ?_;exact⟨J,its',_,G,q⟩
def P6.lnew{z:List Vq}{t':Nat}(I:P6 X t o H s)(O:Qb ys z)(D:ys.length<=sizeLine):
  P6 X t o (aB H s.heap.objs.size<|.lst ys) {s with heap:=s.heap.push {cls:=.type "list",data:=.seq z.toArray},toks:=t'}:=
 I.laid (λ_ _ q=>Mh _ q) (Ml _) ⟨D,z,0,O,MB _ U⟩
def P6.fresh(I:P6 X t o H s):H s.heap.objs.size=none:=I.hok.fresh (Ml _)
def P6.lstM(I:P6 X t o H s)(O:H l=some (.lst i)):i.length<=sizeLine/\∃(q:List Vq)(n:Nat),Qb i q/\i.length=q.length/\s.heap.get? l=some {cls:=.type "list",data:=.seq q.toArray n}:=by
 obtain⟨z,q,n,r,e⟩:=I.hok l _ O;exact⟨z,q,n,r,r.length,e⟩
end
section
variable{X:Cx}
inductive wR(x:V)(vs:VA)(H:Hp)(Q:VK):Prop
 |mk(l e y:_):x=.ref l->vs=[y]->H l=some (.lst e)->e.length<sizeLine->Q .non (aB H l<|.lst<|e++[y])->wR x vs H Q
def bu:LB X "list.append" wR:=by
 intro t s m H x vs v o Q I G Y h;obtain⟨l,d,y,rfl,rfl,D,Z,q⟩:=h;cases G;obtain⟨u,rfl,L⟩:=Y.one;obtain⟨z,O,n,r,J,e⟩:=I.lstM D;refine T9 F.slot_list_append ⟨_,e,U⟩ F.entry_list_append (F.args_list_append_2 _ _) (PySem.list_append l O.toArray n u<|by rw[MF];lia) ⟨e,?_⟩;refine⟨.non,_,I.lset (its':=O++[u]) D e (by simp) (r.append<|.cons L .nil) ?_,U,q⟩;rw[Md,List.length_singleton];lia
inductive zG(x:V)(vs:VA)(H:Hp)(Q:VK):Prop
 |mk(l e:_):x=.ref l->vs=[]->H l=some (.lst e)->Q .non (aB H l<|.lst [])->zG x vs H Q
def zH:LB X "list.clear" zG:=by
 intro t s m H x vs v o Q I G Y h;obtain⟨l,d,rfl,rfl,O,q⟩:=h;cases G;have D:=Y.zero;subst D;obtain⟨z,L,n,r,J,e⟩:=I.lstM O;refine T9 F.slot_list_clear ⟨_,e,U⟩ F.entry_list_clear (F.args_list_clear_1 _) (AutoSeq1.list_clear_list_0 l L.toArray n<|by rw[MF];lia) ⟨e,?_⟩;exact⟨.non,_,I.lset (its':=[]) (ys:=[]) O e U .nil<|MR _,U,q⟩
inductive C4(x:V)(y:V)(H:Hp)(Q:VK):Prop
 |mk(l b e t:_):x=.ref l->y=.ref b->H l=some (.lst e)->H b=some (.lst t)->e.length+t.length<=sizeLine->(∀p,H p=none->Q (.ref p) (aB H p<|.lst<|e++t))->C4 x y H Q
def eK:fM X (binaryOp .Add) C4:=by
 intro t s N H x y v u Q I Z ry h;obtain⟨l,b,f,p,rfl,rfl,G,Y,d,q⟩:=h;cases Z;cases ry;obtain⟨z,D,n,r,o,e⟩:=I.lstM G;obtain⟨z2,O,m,J,Zk,e2⟩:=I.lstM Y;refine PySem.P.add_list e e2 ?_ (by rw[MF,MF];lia);have L:D.toArray++O.toArray=(D++O).toArray:=by simp
 rw[L];exact⟨.ref _,_,I.lnew (t':=s.toks) (r.append J) (by rw[Md];lia),U,q _ I.fresh⟩
end
end L2
namespace Att
open PySem PySem.W PySem.Calls PyProof.Rows
variable{h:Heap}{P:Params}
def Ra:∀(q:List Int)(vs:List Vq),WellAll P h vs (q.map WData.int)->IntsAre vs q:=by
 intro q;induction q with
 |nil=>
  intro vs w;rw[Ny]at w;cases w;exact .nil
 |cons n q z=>
  intro vs w;rw[Mz]at w;cases w with
  |cons a b=>
   cases a;exact .cons _ _ (z _ b)
variable{n:Nat}
def Sb{l:OpenLaw}(i:l.most=some n){P:Params}{h:Heap}{args:List WData}{O:List Vq}
  (G:l.row.toRowW.claim.pre args=true) (Y:WellAll P h O args) :
  ∃a vs z,O=[Value.ref a]/\args=[WData.list<|z.map WData.int]/\h.get? a=some {cls:=.type "list",data:=.seq vs.toArray}/\IntsAre vs z/\z.length<=n:=by
 have L:WShape.hasAll [] args [.list .int]=true:=(pre_splitW G).1;have J:l.pre.holds [] {args:=args}=true:=(pre_splitW G).2;obtain⟨d,r,rfl,e,t⟩:=hasAllW_cons L;obtain rfl:=hasAllW_nil t;obtain⟨f,rfl,o⟩:=hasW_list e;obtain⟨z,rfl⟩:=items_int o;have Z:z.length<=n:=by
  unfold OpenLaw.pre at J;have I:(WTm.not<|.lt (.lit<|.int (n:Int))<|.len<|.arg 0).holds [] {args:=[.list<|z.map .int]}=true:=by
   have I:=(holds_andW J).1;rw[i]at I;exact I
  have D:=condW_of I (w_not<|w_lt w_lit<|w_len_list<|w_arg U);rw[Me]at D;refine Nat.le_of_not_lt λq=>?_;have q':(n:Int)<((z.length:Nat):Int):=by lia
  first
   |(rw[b_ q']at D;exact absurd D zd)
   |(simp at D;lia)
 cases Y with
 |cons w1 w2=>
  cases w2;cases w1 with
  |list m Yq=>exact⟨_,_,z,U,U,m,Ra z _ Yq,Z⟩
def Si(l:OpenLaw)(args:List WData):l.row.toRowW.claim.post args (.bool true) args=true:=
 postW_of (r:=l.row.toRowW) (X:=(true==true))
  (show WShape.has [] (.bool true) .bool=true by first|rfl|decide|simp[WShape.has,WShape.arms,WShape.armsAll])
  (show(WTm.eq .res<|.lit<|.bool true).value [] {args:=args,res:=some (.bool true),after:=args}=some (.bool<|true==true)from w_eq_bool (w_res U) w_lit) rfl
def attach_call{l:OpenLaw}{n:Nat}{q:Vt}{Xw:Vx}{XP:(Str->Option Vq)->Heap->Prop}{YP:Vu->Heap->Prop}{d:DefRec}
  (N:l.most=some n) (J:d.params.defaults=[])
  (call:∀(w:Vu)(s₀ z:Vs)(e mb:Str->Option Vq)(O:Vr)(o:Obj)(pm D doc:Vq)(a:Vr)(vs:List Vq)(L:List Int),
   Ground q Xw [] XP w s₀ e mb z.heap->YP w z.heap->
   z.heap.get? O=some o->o.data=.func (docDef d.name d.params d.body d.scope pm D doc)->z.heap.CodeRec D d.name->e d.name=some (.ref O)->
   z.heap.get? a=some {cls:=.type "list",data:=.seq vs.toArray}->IntsAre vs L->L.length<=n->z.gens=#[]->
   codeAny (model l.prog w) callerA (.call (.ref O) ⟨[.ref a],[]⟩) (λr t=>r=.ok (.ret<|.bool true)/\OldK z.heap t.heap/\t.os=z.os/\AllBare t.gens) z) :
  WalkO q Xw XP YP l.row.toRowW d [] (λf vs=>PySem.call f vs):=by
 intro w s₀ z e mb G Y O o pm D doc dV kV R p V9 hD Z v args et as Y8 Yo ei ee ea;obtain rfl:dV=.none:=Dflts.none hD J;obtain rfl:kV=.none:=Dflts.noKw hD;obtain⟨a,vs,L,rfl,rfl,I,Yv,N7⟩:=Sb N Y8 ee;refine enter_call (u_ (call w s₀ z e mb O o pm D doc a vs L G Y R (fd_plain p) V9 Z I Yv N7 v) λr t C=>?_);obtain⟨rfl,i,m,h4⟩:=C;exact⟨.inl ⟨.bool true,.bool true,[],U,λ_=>rfl,.bool true,Si l _,λ_=>⟨List.Pairwise.nil,λ_ j=>(nomatch j)⟩⟩,i,m,h4⟩
end Att
namespace L2
open PySem PySem.Spec PyProof.Rows
def o7:∀{vs:List Vq}{q:List Int},IntsAre vs q->Qb (q.map V.int) vs
 |_,_,.nil=>.nil
 |_,_,.cons n t h=>.cons ⟨t,U⟩ (o7 h)
def dk(s:Stmt)(j:Nat):Stmt:=match s with
 |.ClassDef _ _ _ e _ _ _ _ _ _ _=>e.getD j (.Pass ⟨0,0,0,0⟩)
 |_=>.Pass ⟨0,0,0,0⟩
def cY(s:Stmt):Arguments:=match s with
 |.FunctionDef _ a _ _ _ _ _ _ _ _=>a
 |_=>{posonlyargs:=[],args:=[],vararg:=none,kwonlyargs:=[],kw_defaults:=[],kwarg:=none,defaults:=[]}
def cq(s:Stmt):List Stmt:=match s with
 |.FunctionDef _ _ b _ _ _ _ _ _ _=>b
 |_=>[]
def aj(s:Stmt):Scope:=match s with
 |.FunctionDef _ _ _ _ _ _ e _ _ _=>e
 |_=>{kind:=.function,names:=[],isGenerator:=false,isCoroutine:=false}
abbrev ce:y9:=λ_ _ _ _ _ _=>False
abbrev E0:XK:=λ_ _ _=>False
def lL{X:Cx}:gD ce X E0:=λ_ _ _ _ _ _ _ h=>h.elim
structure Qj(K:ZF)(x qual:Str)(st:Stmt)(f:Vr)(fd:Vw):Prop where
 ex:∃(oc:Vq)(od:Option Vr)(kV doc pm:Vq)(an:Option Vr)(Of ct:Vq)(Wl:Array (Option Vq)),
  fd=PySem.W.fnOf x qual (cY st) (cq st) (aj st) .none kV doc pm an Of ct/\K.lookup f=some ⟨oc,od,.func fd,Wl⟩/\PySem.W.codeIn K Of qual=true
 kp:PySem.W.keepIn K (.ref f)=true
section
variable{P:Vt}{w:Vu}{K:ZF}{r:Str->Option Vq}{o:Heap}
variable{i:Vw}{f:Vr}{st:Stmt}{x e:Str}
def Qj.ok{N d:Vx}{k:Nat}{sp:Sp}(F:Qj K x e st f i)(S:ax N d (aj st))(len:∀vs H Q E,sp vs H Q E->vs.length=d.length)
  (I:∀(Of:Vq)(A:Vv)(outer:List Env)(s:Vs)(H:Hp)(vs:VA)(Q:VK)(E:XK),P9 k (A.deeper<|envOfC e (aj st) s.heap.objs.size f Of)->sp vs H Q E->
   ∃t,Rb (oM ce P w K r o N e (aj st) f Of A outer s H E).nox (cq st) t/\t {nx:=λ_ z=>Q .non z,rt:=Q} (start N vs) H):P7 P w K r o ce (k+1) f i d sp:=by
 obtain⟨G,p,kV,doc,pm,Y,Of,ct,L,rfl,m,O⟩:=F.ex;refine zA m O S len λA outer s H vs Q E hr D=>?_;obtain⟨t,h,q⟩:=I Of A outer s H vs Q E hr D;exact⟨t,h.nox,q⟩
def Qj.binds{ps:Vx}(F:Qj K x e st f i)
  (h:∀(kV doc pm:Vq)(q:Option Vr)(Of ct:Vq)(t:List Vq),t.length=ps.length->bindArgs (PySem.W.fnOf x e (cY st) (cq st) (aj st) .none kV doc pm q Of ct) ⟨t,[]⟩=pure (ps.zip t)):Qk K i ps []:=by
 obtain⟨I,m,kV,doc,pm,q,Of,ct,O,rfl,d,z⟩:=F.ex;exact .all (h kV doc pm q Of ct)
def zI{O:Vq}{t q:Option Vr}{z:Array (Option Vq)}{kV doc pm Of ct:Vq}(l:K.lookup f=some ⟨O,t,.func<|PySem.W.fnOf x e (cY st) (cq st) (aj st) .none kV doc pm q Of ct,z⟩)
  (c:PySem.W.codeIn K Of e=true) (k:PySem.W.keepIn K (.ref f)=true):Qj K x e st f (PySem.W.fnOf x e (cY st) (cq st) (aj st) .none kV doc pm q Of ct):=⟨⟨O,t,kV,doc,pm,q,Of,ct,z,U,l,c⟩,k⟩
end
def eE{A:Vv}{k:Nat}(hr:P9 k A):A.units+1<cLine:=Nat.lt_of_le_of_lt (Nat.add_le_add_left (by decide:1<=64) _) hr.units
section
variable{X:Cx}
def pv(i:Nat){x:Str}{e:Pos}(z:X.N[i]?=some x:=by rfl)(O:HG X.env.scope x:=by first|exact Or.inl rfl|exact Or.inr (Or.inl U)|exact Or.inr (Or.inr U))(t:(x==("__debug__":Str))=false:=by decide)
  (q:(x==("__classdict__":Str))=false:=by decide):PE X (.Name x e) (kB i):=za z O t q
end
section
variable{A B:Prop}
def cD(h:B):if false=true then A else B:=by
 rw[f_ MA];exact h
def kG(h:A):if true=true then A else B:=by
 rw[g_ rfl];exact h
def bE{c A B:Prop} [Decidable c](e:c->A)(t:¬c->B):if c then A else B:=by
 by_cases h:c
 ·rw[g_ h];exact e h
 ·rw[f_ h];exact t h
def P4(H q:Hp):Prop:=∀b o,H b=some o->q b=some o
def P4.refl(H:Hp):P4 H H:=λ_ _ h=>h
variable{H t i:Hp}
def P4.trans(a:P4 H t)(b:P4 t i):P4 H i:=λc o h=>b c o (a c o h)
def P4.free{H z:Hp}(e:P4 H z){l:Vr}(h:z l=Option.none):H l=Option.none:=by
 cases q:H l with
 |none=>rfl
 |some o=>
  rw[e l o q]at h;cases h
end
def i9(t:Env):∀(names:List (Str×NameKind))(O:List (Str×Vr)),(∀x∈names,x.2=.free->∃c,t.cells.lookup x.1=some c)->(∀x c,O.lookup x=some c->t.cells.lookup x=some c)->
  ∃o,(forIn names O λ(p:Str×NameKind)(r:List (Str×Vr))=>(if(p.2==NameKind.free)=true then do let c <-cellOf t p.1;pure (ForInStep.yield ((p.1,c)::r))else pure (ForInStep.yield r):Sem (ForInStep<|List<|Str×Vr)))=(pure o:Sem (List<|Str×Vr)) /\
   (∀x c,o.lookup x=some c->t.cells.lookup x=some c)/\(∀x,(∃c,O.lookup x=some c)->∃c,o.lookup x=some c)/\∀x∈names,x.2=.free->∃c,o.lookup x.1=some c
 |[],O,_,h=>⟨O,U,h,λ_ z=>z,λ_ z=>nomatch z⟩
 |(n,k)::r,O,i,h=>by
  by_cases e:k=.free
  ·subst e;obtain⟨c,G⟩:=i (n,.free) Mf rfl;have d:∀x D,((n,c)::O).lookup x=some D->t.cells.lookup x=some D:=λx D q=>by
    rw[Ni]at q;cases ex:x==n with
    |true=>
     rw[ex]at q;have:x=n:=by simpa using ex
     subst this;cases q;exact G
    |false=>rw[ex]at q;exact h x D q
   obtain⟨o,e1,e2,L,e4⟩:=i9 t r ((n,c)::O) (λx I=>i x<|Mn _ I) d;refine⟨o,?_,e2,λx⟨D,q⟩=>L x ?_,λx I Y=>?_⟩
   ·rw[TU];rw[g_<|show(((n,NameKind.free):Str×NameKind).2==NameKind.free)=true from by rfl];unfold cellOf;rw[G];exact e1
   ·rw[Ni];cases ex:x==n with
    |true=>exact⟨c,U⟩
    |false=>exact⟨D,q⟩
   ·rcases Mo.mp I with z|z
    ·subst z;exact L n ⟨c,by rw[Ni];simp⟩
    ·exact e4 x z Y
  ·obtain⟨o,e1,e2,L,e4⟩:=i9 t r O (λx I=>i x<|Mn _ I) h;refine⟨o,?_,e2,L,λx I Y=>?_⟩
   ·rw[TU];rw[f_<|show¬(((n,k):Str×NameKind).2==NameKind.free)=true by simpa using e];exact e1
   ·rcases Mo.mp I with z|z
    ·subst z;exact absurd Y e
    ·exact e4 x z Y
def ja(q:∀x∈sc.names,x.2=.free->∃c,env.cells.lookup x.1=some c):
  ∃e,closureFor sc env=pure e/\(∀x c,e.lookup x=some c->env.cells.lookup x=some c)/\∀x∈sc.names,x.2=.free->∃c,e.lookup x.1=some c:=by
 obtain⟨e,e1,e2,_,e4⟩:=i9 env sc.names [] q (λx c z=>by cases z);refine⟨e,?_,e2,e4⟩;unfold closureFor;exact(e_ (λ(m:Sem (List<|Str×Vr))=>m>>=λr=>pure r) e1)
def bZ:∀{l:List (Str×κ)}{x:Str}{k:κ},l.lookup x=some k->(x,k)∈l
 |[],_,_,h=>by cases h
 |(n,k')::r,x,k,h=>by
  rw[Ni]at h;cases e:x==n with
  |true=>
   rw[e]at h;have:x=n:=by simpa using e
   subst this;cases h;exact Mf
  |false=>
   rw[e]at h;exact Mn _ (bZ h)
def lQ(e:Env)(x:Str)(k:NameKind):NameKind:=if(k==NameKind.free&&e.scope.kind==.function&&e.kindOf x==some .cell)=true then .cell else k
def mW:∀{names:List (Str×NameKind)}{x:Str},
  (names.map λ(p:Str×NameKind)=>match p with|(n,k)=>if(k==NameKind.free&&t.scope.kind==.function&&t.kindOf n==some .cell)=true then(n,NameKind.cell)else(n,k)).lookup x=(names.lookup x).map (lQ t x)
 |[],x=>rfl
 |(n,k)::r,x=>by
  rw[Mz];by_cases e:x=n
  ·subst e;dsimp only;by_cases c:(k==NameKind.free&&t.scope.kind==.function&&t.kindOf x==some .cell)=true
   ·rw[g_ c];have z:lQ t x k=.cell:=g_ c;simp[Ni,z]
   ·rw[f_ c];have z:lQ t x k=k:=f_ c;simp[Ni,z]
  ·have q:(x==n)=false:=by simpa using e
   dsimp only;rw[Ni (a:=x) (b:=k),q];show _=(r.lookup x).map (lQ t x);rw[<-mW];by_cases c:(k==NameKind.free&&t.scope.kind==.function&&t.kindOf n==some .cell)=true
   ·rw[g_ c,Ni,q]
   ·rw[f_ c,Ni,q]
def jc:(compEnvC t o C e).kindOf x=(t.names.lookup x).map (lQ e x):=mW
def qa(N:Vx)(sc0 e:Scope)(t:Vx)(ix:List (Option Nat)):Bool:=
 e.kind==.function&&ix.length==t.length &&
 e.names.all (λp=>p.2 != .cell&&(p.2 != .free||(sc0.names.lookup p.1==some .cell||sc0.names.lookup p.1==some .free))&&(p.2 != .local||e.names.lookup p.1==some .local)) &&
 (List.range t.length).all λj=>match ix[j]?,t[j]? with
  |some (some i),some x=>N[i]?==some x&&e.names.lookup x==some .free
  |_,_=>true
def kH(h:qa N sc0 e t ix=true):
  e.kind=.function/\ix.length=t.length/\(∀p∈e.names,p.2≠.cell)/\(∀p∈e.names,p.2=.free->sc0.names.lookup p.1=some .cell\/sc0.names.lookup p.1=some .free) /\
   (∀p∈e.names,p.2=.local->e.names.lookup p.1=some .local)/\∀(j i:Nat)(x:Str),ix[j]?=some (some i)->t[j]?=some x->N[i]?=some x/\e.names.lookup x=some .free:=by
 unfold qa at h;simp only[Nh,MT,S5,bne_iff_ne,Bool.or_eq_true,ne_eq]at h;obtain⟨⟨⟨o,r⟩,O⟩,I⟩:=h;refine⟨o,r,λp q=>(O p q).1.1,λp q D=>?_,λp q Y=>?_,λj i x e1 e2=>?_⟩
 ·rcases(O p q).1.2 with z|z
  ·exact absurd D z
  ·exact z
 ·rcases(O p q).2 with z|z
  ·exact absurd Y z
  ·exact z
 ·have L:j<t.length:=(Mc.mp e2).1;have:=I j (Nn.mpr L);rw[e1,e2]at this;simpa using this
def fz(X:Cx)(o:Scope)(e:Vx)(C:Vr)(t:List (Str×Vr))(s:Vs)(H:Hp)(q:List Vr):Cx:=
 {X with N:=e,s₀:=s,H₀:=H,env:=compEnvC o t C X.env,outer:=X.stack,stack:=X.stack,ex:=q,fn:=λ_=>false,pn:=[],xe:=λ_ _=>False}
def kr(ix:List (Option Nat))(e:St):St:=ix.map λo=>match o with|some i=>(e[i]?).getD none|none=>none
def QM:St->St->Prop
 |[],[]=>True
 |none::r,_::r'=>QM r r'
 |some v::r,w::r'=>w=some v/\QM r r'
 |_,_=>False
def QM.spec:∀{a b:St},QM a b->a.length=b.length/\∀(i:Nat)v,a[i]?=some (some v)->b[i]?=some (some v)
 |[],[],_=>⟨U,λ_ _ z=>by simp at z⟩
 |[],_::_,h=>h.elim
 |none::r,[],h=>h.elim
 |some v::r,[],h=>h.elim
 |none::r,w::r',h=>by
  obtain⟨e1,e2⟩:=QM.spec (a:=r) (b:=r') h;refine⟨by simp[e1],λi v z=>?_⟩;cases i with
  |zero=>simp at z
  |succ i=>simpa using e2 i v (by simpa using z)
 |some u::r,w::r',h=>by
  obtain⟨q,h⟩:=h;obtain⟨e1,e2⟩:=QM.spec (a:=r) (b:=r') h;refine⟨by simp[e1],λi v z=>?_⟩;cases i with
  |zero=>simp at z;subst z;simp[q]
  |succ i=>simpa using e2 i v (by simpa using z)
structure PF(X:Cx)(T':List Expr)(t:TT):Prop where
 run:∀(pins:List (Vr×Obj))(s:Vs)(σ:St)(H:Hp)(Q:Bool->Hp->Prop),P6 X pins σ H s->t σ H Q->
  wpAny (model X.prog X.w) X.A (forIn T' true λc r=>if r=true then do let ok <-isTrue c X.env (eval c X.env);pure (ForInStep.yield ok)else pure (ForInStep.yield r)) (TP X pins σ Q) X.xe s
instance {X:Cx}{q:List Expr}{t:TT}:CoeFun (PF X q t) λ_=>∀(e:List (Vr×Obj))(s:Vs)(o:St)(H:Hp)(Q:Bool->Hp->Prop),P6 X e o H s->t o H Q->
  wpAny (model X.prog X.w) X.A (forIn q true λc r=>if r=true then do let ok <-isTrue c X.env (eval c X.env);pure (ForInStep.yield ok)else pure (ForInStep.yield r)) (TP X e o Q) X.xe s:=⟨PF.run⟩
def Ix:TT:=λ_ H Q=>Q true H
def eM:PF X [] Ix:=⟨λe s t H Q I h=>wpAny_tests_nil ⟨H,I,h⟩⟩
def ie(h:PT X c t):PF X [c] t:=⟨λe s o H Q I q=>wpAny_tests_one<|h e s o H Q I q⟩
def ym(J:It)(g:TG)(Z:TT)(o:TE)(ix:List (Option Nat))(t:St)(L:Hp)(Q:VK):Prop:=∃W:Nat->Nat->VA->Hp->Prop,(∃m,W 0 m [] L)/\∀i m e H,W i m e H->
 (J.stop i H/\e.length<=sizeLine/\∀D,H D=none->Q (.ref D) (aB H D<|.lst e)) ∨
 (J.go i H/\e.length<=sizeLine/\∀x O,J.yld i H x O->g x (kr ix t) O λq Y=>QM (kr ix t) q/\Z q Y λb I=>if b=true then o q I λy G=>∃z,z<m/\W (i+1) z (e++[y]) G else ∃z,z<m/\W (i+1) z e I)
def Ky(O:TI)(g:TG)(z:TT)(t:TE)(ix:List (Option Nat)):TE:=λe H Q=>O e H λJ q=>ym J g z t ix e q Q
section
def zJ(I:P6 X t R m d)(Xb:qa X.N X.env.scope i f ix=true)(e2:∀x c,r.lookup x=some c->X.env.cells.lookup x=some c)(p:∀x∈i.names,x.2=.free->∃c,r.lookup x.1=some c)
  (Y:∀b∈fp,QO X t m b) (fo:∀b∈fp,∃o,d.heap.get? b=some o) (J:d.heap.objs.size<=C):(fz X i f C r d m fp).Ok:=by
 obtain⟨k1,_,k3,_,_,_⟩:=kH Xb;refine⟨I.ok.mod,k1,I.ok.glob,I.ok.blt,J,λx y c a b=>I.ok.inj x y c (e2 x c a)<|e2 y c b,λx j=>?_,λx c z=>(by cases z),I.ok.hd,I.ok.frames,.inl U,λb O=>?_,I.bs,MP I.ok.bsz I.sz,λb o e O=>?_,λb O G=>?_,I.stack,I.stkFree⟩
 ·have D:(compEnvC i r C X.env).kindOf x=some .cell\/(compEnvC i r C X.env).kindOf x=some .free:=j;rw[jc]at D;cases q:i.names.lookup x with
  |none=>rw[q]at D;rcases D with z|z<;>cases z
  |some k=>
   have Z:=bZ q;have G:k=.free:=by
    rw[q]at D;have nk:=k3 _ Z;cases k with
    |free=>rfl
    |cell=>exact absurd U nk
    |_=>rcases D with z|z<;>(simp[lQ]at z)
   exact p (x,k) Z G
 ·obtain⟨o,v⟩:=fo b O;exact⟨ME<|Ms (Mm v) J,λx c q=>(Y b O).2.2.2.2.1 x c<|e2 x c q⟩
 ·have L:b∈fp:=O;rcases(Y b L).2.2.2.1 with z|z
  ·exact I.ok.noex b o e z
  ·exact absurd (Ms (Mm e)<|MP I.ok.bsz z) (M7 _)
 ·have L:b∈fp:=O;rcases Mo.mp (I.stkSub b G)with z|z
  ·exact(Y b L).2.1 z
  ·exact(Y b L).2.2.1 z
end
section
structure Rp(X:Cx)(pins:List (Vr×Obj))(σ:St)(H:Hp)(s:Vs)(C:Vr):Prop where
 inv:P6 X pins σ H s
 ns:∃m,s.heap.Ns C m
 free:H C=none
 loc:C≠X.env.locals
 cel:∀x c,X.env.cells.lookup x=some c->c≠C
 abv:X.s₀.heap.objs.size<=C
 pin:∀p∈X.pn++pins,p.1≠C
def Rp.gone(L:Rp X t r H s C)(z:Heap.SameBut C s.heap i):P6 X t r H {s with heap:=i}:=
 L.inv.turned (it:=C) (t':=s.toks) (λb o q e=>(z.2 b q).trans e) L.free L.loc (.inr L.abv) L.cel L.pin
def wS(hc:X.calm=true)(Xb:qa X.N X.env.scope sc R ix=true)(hi:PI X tg t wi)
  (hg:∀C cl s H Y,PG (fz X sc R C cl s H Y) tg g) (hf:∀C cl s H Y,PF (fz X sc R C cl s H Y) T' tf) (he:∀C cl s H Y,PE (fz X sc R C cl s H Y) VE te)
  (hs:∀x,foldedSetIterable t X.env x=pure x) (I:P6 X pins σ H s) (h:Ky wi g tf te ix σ H Q)
  (Yp:∀(C D:Vr)(H':Hp)(s':Vs),Rp X pins σ H' s' C->Q (.ref D) H'->compPost (model X.prog X.w) X.A X.xe use Qf (.ref D) C (.ok .next) s') :
  wpAny (model X.prog X.w) X.A (comprehension (.ListComp VE [⟨tg,t,T',0⟩] sc pos) sc X.env VB (newList []) false (eval t X.env) use) Qf X.xe s:=by
 obtain⟨hk,N7,VY,Wi,Xi,Xt⟩:=kH Xb;obtain⟨cl,e1,e2,e3⟩:=ja (env:=X.env) (sc:=sc) (λx hx hf=>I.ok.has x.1<|Wi x hx hf);refine wpAny_comprehension_free (use:=use) (cl:=cl) U hs e1 hk Xi (bL (hi pins s σ H _ I h) λv s1 h1=>bL h1 λeb O h2=>?_);obtain⟨it,Y,tn,J,d,e,M,T,YO,f2,W,⟨m0,w0⟩,V_⟩:=h2;subst e;refine r_ (Tq VY (by intro y hy;simp at hy) (λh₁ Xf Wy=>?_) hk);dsimp only at Xf Wy⊢;generalize et:O.heap.push {cls:=.type "list",dict:=none,data:=.seq ([]:List Vq).toArray}=G at Xf Wy⊢;have Z8:G.objs.size=O.heap.objs.size+1:=by rw[<-et,ND]
 have Y2:O.heap.objs.size≠G.objs.size:=by rw[Z8];exact ME (NG _)
 have Xg:O.heap.objs.size<=G.objs.size:=by rw[Z8];exact Tf _
 have VC:∀b,b<O.heap.objs.size->b≠G.objs.size:=λb L=>by rw[Z8];exact ME (Nat.lt_succ_of_lt L)
 have VL:∀b,b<O.heap.objs.size->b≠O.heap.objs.size:=λb L=>ME L;have old:∀b o,O.heap.get? b=some o->h₁.get? b=some o:=λb o e=>Wy.extBut b o (VC b<|Mm e) (Mh _<|et▸Mh _ e);have XN:h₁.get? O.heap.objs.size=some {cls:=.type "list",data:=.seq ([]:List Vq).toArray}:=Wy.extBut _ _ Y2 (Mh _<|et▸MB _ U);have fo:∀b∈Y,∃o,O.heap.get? b=some o:=λb L=>let⟨o,B,_⟩:=T.obj _ _ YO b L;⟨o,B⟩;have fD:∀b∈Y,b≠O.heap.objs.size:=λb L=>let⟨o,B⟩:=fo b L;VL b (Mm B);have X5:(fz X sc R G.objs.size cl O d Y).Ok:=zJ M Xb e2 e3 f2 fo Xg;have HD:d O.heap.objs.size=none:=M.hok.fresh (Ml _);have HC:d G.objs.size=none:=M.hok.fresh Xg;have I4:P6 (fz X sc R G.objs.size cl O d Y) [] (kr ix σ) d {O with heap:=h₁,toks:=O.toks+([]:List (Str×Vq)).length}:=by
  refine⟨X5,U,M.bare,Un.kept old,⟨_,Xf,λj x v a b c=>?_⟩,λx c q=>?_,HC,λx c q=>M.freeC x c<|e2 x c q,λp Z=>(by cases Z),M.hok.kept old,?_⟩
  ·
   have a':R[j]?=some x:=a;have b':(ix.map λo=>match o with|some i=>(σ[i]?).getD none|none=>none)[j]?=some (some v):=b;rw[Mt]at b';cases q:ix[j]? with
   |none=>rw[q]at b';cases b'
   |some o=>
    rw[q]at b';cases o with
    |none=>cases b'
    |some i=>
     obtain⟨n1,n2⟩:=Xt j i x q a';have Y4:(σ[i]?).getD none=some v:=MN b';have sv:σ[i]?=some (some v):=by
      cases z:σ[i]? with
      |none=>rw[z]at Y4;cases Y4
      |some y=>rw[z]at Y4;exact e_ some Y4
     obtain⟨m,hn,hl⟩:=M.loc;have kx:=Wi (x,.free) (bZ n2) rfl;obtain⟨u,r,lk⟩:=hl i x v n1 sv (.inr kx);refine⟨u,r,.inr ⟨?_,?_⟩⟩
     ·show(compEnvC sc cl G.objs.size X.env).kindOf x=some .cell\/(compEnvC sc cl G.objs.size X.env).kindOf x=some .free;rw[jc,n2];show some (lQ X.env x .free)=some .cell\/some (lQ X.env x .free)=some .free;unfold lQ;split
      ·exact .inl rfl
      ·exact .inr rfl
     ·obtain⟨c1,XX⟩:=e3 (x,.free) (bZ n2) rfl;refine⟨c1,XX,?_⟩;have XJ:=e2 x c1 XX;rcases lk with⟨z,_⟩|⟨_,c,XW,eh⟩
      ·have z':X.env.scope.names.lookup x=some .local:=z;rcases kx with y|y<;>(rw[y]at z';cases z')
      ·rw[XJ]at XW;cases XW;obtain⟨o,B,hd⟩:=eh;exact⟨o,old c1 o B,hd⟩
  ·obtain⟨v,o,B,hd⟩:=M.cell x c (e2 x c q);exact⟨v,o,old c o B,hd⟩
  ·show(ix.map _).length=R.length;rw[Me,N7]
 have Yw:∀x c,cl.lookup x=some c->c≠O.heap.objs.size:=λx c q z=>by
  obtain⟨v,o,B,hd⟩:=M.cell x c (e2 x c q);exact VL c (Mm B) z
 have loop:∀s₃:Vs,s₃={O with heap:=h₁,toks:=O.toks+([]:List (Str×Vq)).length}->
   codeAny (model X.prog X.w) X.A (.compLoop (.ListComp VE [⟨tg,t,T',0⟩] sc pos) 0 (.ref it) (.ref O.heap.objs.size)<|compEnvC sc cl G.objs.size X.env)
    (compPost (model X.prog X.w) X.A X.xe use Qf (.ref O.heap.objs.size) G.objs.size) s₃:=by
  rintro s₃ rfl;refine codeAny_loop U (λn s'=>∃i ys H' f' k,P6 (fz X sc R G.objs.size cl O d Y) [] (kr ix σ) H' s'/\tn i s'.heap/\(∀b∈Y,H' b=none)/\H' O.heap.objs.size=none /\
   Qb ys f'/\s'.heap.get? O.heap.objs.size=some {cls:=.type "list",data:=.seq f'.toArray k}/\W i n ys H') ?_ m0
   ⟨0,[],d,[],_,I4,T.keep _ _ _ YO λb _ o e=>old b o e,λb L=>(f2 b L).1,HD,.nil,XN,w0⟩
  intro n s5 z;obtain⟨i,ys,H5,f',k,I5,XQ,YI,XZ,vv,oD,w5⟩:=z;show wpAny _ X.A ((compTurn (.ListComp VE [⟨tg,t,T',0⟩] sc pos) 0 (.ref it) (.ref O.heap.objs.size)<|compEnvC sc cl G.objs.size X.env).onRaise λx=>do noteFrame x (compEnvC sc cl G.objs.size X.env);theTreesLotGoes x) _ _ s5;refine wpAny_noted ?_;rw[compTurn_list];have Zw:P6 (fz X sc R G.objs.size cl O d Y) [(O.heap.objs.size,{cls:=.type "list",data:=.seq f'.toArray k})] (kr ix σ) H5 s5:=I5.pins_of λp Z=>by
   have J':p=(O.heap.objs.size,{cls:=.type "list",data:=.seq f'.toArray k}):=by simpa using Z
   subst J';refine⟨oD,XZ,Y2,λL=>?_,λv z=>(by cases z)⟩;obtain⟨_,o,B,_⟩:=M.stack.mem (show O.heap.objs.size∈mL X.stack from L);exact M7 _ (Mm B)
  have Yc:∀{H':Hp},(∀b∈Y,H' b=none)->∀b∈Y,QO (fz X sc R G.objs.size cl O d Y) [(O.heap.objs.size,({cls:=.type "list",data:=.seq f'.toArray k}:Obj))] H' b:=λ{H'}hn b L=>by
   refine⟨hn b L,(X5.exf b L).1,X5.exfs b L,.inl L,(X5.exf b L).2,λp Z=>?_⟩;have J':p=(O.heap.objs.size,({cls:=.type "list",data:=.seq f'.toArray k}:Obj)):=by
    have z:p∈([]:List (Vr×Obj))++[(O.heap.objs.size,({cls:=.type "list",data:=.seq f'.toArray k}:Obj))]:=Z;simpa using z
   subst J';exact(fD b L).symm
  rcases V_ i n ys H5 w5 with⟨stop,hz,qn⟩|⟨go,hz,step⟩
  ·refine a_ (o_<|a_<|j_ (T.done (fz X sc R G.objs.size cl O d Y) U U U hc i _ s5 (kr ix σ) H5 (λ_ _=>False) Zw (Yc YI) XQ stop) (λr s6⟨hr,I6⟩=>?_) λ_ _ f=>f.elim);subst hr;refine d_ ?_;obtain⟨m,hn,_⟩:=I6.loc;have ed:s6.heap.get? O.heap.objs.size=some {cls:=.type "list",data:=.seq f'.toArray k}:=(I6.pin (O.heap.objs.size,{cls:=.type "list",data:=.seq f'.toArray k}) (by show _∈([]:List (Vr×Obj))++_;simp)).1;have u6:Un (mL X.stack) Y d H5 O.heap s6.heap:=I6.base;have ea:H5 G.objs.size=none:=I6.free;refine Yp _ _ (aB H5 O.heap.objs.size<|.lst ys) s6 ⟨?_,⟨m,hn⟩,by rw[al Y2.symm];exact ea,(VC _ M.lt).symm,λx c q=>?_,MP M.sz Xg,λp Z=>?_⟩ (qn _ XZ)
   ·refine M.call' (s':=s6) (ch:=Y) I6.os ?_ ?_ I6.bare λb L=>⟨(f2 b L).2.2.2.1,(f2 b L).2.1,(f2 b L).2.2.2.2.1,(f2 b L).2.2.2.2.2⟩
    ·refine⟨λb o e n nf nx=>u6.keep b o e n nf nx,λb o e n nf nx=>u6.slot b o e n nf nx,λb o e n nx=>?_,λb o e nx=>u6.there b o e nx,λb xs e=>?_,λb o u e=>?_,λb ps e=>?_⟩
     ·rw[al<|VL b<|Mm e];exact u6.free b o e n nx
     ·rw[al<|au e HD];exact u6.tups b xs e
     ·rw[al<|au e HD];exact u6.frzs b o u e
     ·rw[al<|au e HD];exact u6.tbls b ps e
    ·intro b o e;by_cases L:b=O.heap.objs.size
     ·subst L;rw[aa]at e;cases e;exact⟨hz,f',k,vv,ed⟩
     ·rw[al L]at e;refine(I6.hok b o e).stay (λc v XW q=>q) (λc q=>?_) λc xs q=>?_
      ·rw[al<|au q XZ];exact q
      ·rw[al<|au q XZ];exact q
   ·obtain⟨v,o,B,hd⟩:=M.cell x c q;exact VC c (Mm B)
   ·exact VC p.1 (Mm (M.pin p Z).1)
  ·refine a_ (o_<|a_<|j_ (T.item (fz X sc R G.objs.size cl O d Y) U U U hc i _ s5 (kr ix σ) H5 (λ_ _=>False) Zw (Yc YI) XQ go) (λr s6⟨u,hr,h6⟩=>?_) λ_ _ f=>f.elim);subst hr;refine a_ (j_ h6 (λ_ s7 ee=>?_) λ_ _ f=>f.elim);obtain⟨x,H7,I7,r7,y7,X3,en⟩:=ee;have ei:=I7.pinned (Yc en) (T.obj _ _ X3);refine a_ (j_ (hg _ _ _ _ _ _ s7 (kr ix σ) H7 x u _ ei r7<|step x H7 y7) (λ_ s8 ee=>?_) λ_ _ f=>f.elim);obtain⟨σ8,H8,I8,x8,q8⟩:=ee;obtain⟨xl,xv⟩:=x8.spec;have Wf:∀{σ9:St}{H9:Hp}{s9:Vs}{pl:List (Vr×Obj)},(∀p∈cS Y s7.heap,p∈pl)->P6 (fz X sc R G.objs.size cl O d Y) pl σ9 H9 s9->tn (i+1) s9.heap/\∀b∈Y,H9 b=none:=λ{σ9 H9 s9 pl}Z I9=>by
    have pn:∀b o,b∈Y->s7.heap.get? b=some o->s9.heap.get? b=some o/\H9 b=none:=λb o L e=>by
     have:=I9.pin (b,o) (Mj _<|Z _<|fq L e);exact⟨this.1,this.2.1⟩
    refine⟨T.keep _ _ _ X3 λb L o e=>(pn b o L e).1,λb L=>?_⟩;obtain⟨o,e,_⟩:=T.obj _ _ X3 b L;exact(pn b o L e).2
   refine a_ (j_ (hf _ _ _ _ _ _ s8 σ8 H8 _ I8 q8) (λok s9⟨H9,I9,q9⟩=>?_) λ_ _ f=>f.elim);have pD:∀{σ9:St}{H9:Hp}{s9:Vs},P6 (fz X sc R G.objs.size cl O d Y) ([(O.heap.objs.size,({cls:=.type "list",data:=.seq f'.toArray k}:Obj))]++cS Y s7.heap) σ9 H9 s9->
     s9.heap.get? O.heap.objs.size=some {cls:=.type "list",data:=.seq f'.toArray k}/\H9 O.heap.objs.size=none:=λ{σ9 H9 s9}I9=>by
    have:=I9.pin (O.heap.objs.size,{cls:=.type "list",data:=.seq f'.toArray k}) (Mj _<|MO _<|by simp);exact⟨this.1,this.2.1⟩
   cases ok with
   |false=>
    obtain⟨m',hm,w9⟩:=(show ∃m',m'<n/\W (i+1) m' ys H9 from by simpa using q9);obtain⟨t9,Z_⟩:=Wf (λp Z=>Mj _ Z) I9;obtain⟨el,es⟩:=pD I9;refine d_ ⟨U,m',hm,i+1,ys,H9,f',k,(I9.pins_of (pins':=[]) λp Z=>nomatch Z).weak xl xv,t9,Z_,es,vv,el,w9⟩
   |true=>
    have ey:te σ8 H9 λy H4=>∃m',m'<n/\W (i+1) m' (ys++[y]) H4:=by simpa using q9
    refine a_ (a_<|j_ (he _ _ _ _ _ _ s9 σ8 H9 _ I9 ey) (λyv sA ee=>?_) λ_ _ f=>f.elim);obtain⟨y,HA,IA,rA,m',hm,wA⟩:=ee;obtain⟨ec,Z7⟩:=pD IA;have hsz:f'.toArray.size<=sizeLine:=by rw[MF,<-vv.length];exact hz
    refine a_ (wpAny_list_append_plain (hsz:=hsz) ⟨_,ec⟩ λh9 ew ev=>?_);have IB:P6 (fz X sc R G.objs.size cl O d Y) (cS Y s7.heap) σ8 HA sA:=IA.pins_of λp Z=>IA.pin p (Mj _<|Mj _ Z);have IC:P6 (fz X sc R G.objs.size cl O d Y) (cS Y s7.heap) σ8 HA {sA with heap:=h9}:=IB.turned (it:=O.heap.objs.size) (t':=sA.toks) (λb o L e=>(ev.2 b L).trans e) Z7 Y2 (.inr<|Ml _) (λx c q=>Yw x c q) λp Z=>by
     have J':p∈cS Y s7.heap:=by
      have z:p∈([]:List (Vr×Obj))++cS Y s7.heap:=Z;simpa using z
     exact fD p.1 (iA J').1
    obtain⟨t9,Z_⟩:=Wf (λp Z=>Z) IC;obtain⟨k',er⟩:=ew;refine d_ (d_ ⟨U,m',hm,i+1,ys++[y],HA,f'++[yv],k',(IC.pins_of (pins':=[]) λp Z=>nomatch Z).weak xl xv,t9,Z_,Z7,vv.append<|.cons rA .nil,?_,wA⟩);show h9.get? O.heap.objs.size=_;rw[er];simp
 exact codeAny_compStart_list (loop _ U) (T.self X.A 0 _ _ _ (T.keep _ _ _ YO λb _ o e=>old b o e)<|loop _ U)
def gu(Z:X.calm=true)(Y:qa N sc0 o N' ix=true)(v:PI X r e wi)
  (p:∀C t s H z,PG (fz X o N' C t s H z) r g) (f:∀C t s H z,PF (fz X o N' C t s H z) T' tf) (d:∀C t s H z,PE (fz X o N' C t s H z) VE B)
  (G:X.N=N:=by rfl) (J:X.env.scope=sc0:=by rfl) (R:∀x,foldedSetIterable e X.env x=pure x:=by intro _;rfl) :
  PE X (.ListComp VE [⟨r,e,T',0⟩] o M) (Ky wi g tf B ix):=by
 refine⟨?_⟩;intro i s σ H Q I h;subst G J;rw[eval_ListComp];refine wS (use:=none) Z Y v p f d R I h λC D O s' L q=>?_;obtain⟨m,j⟩:=L.ns;exact⟨m,j,λh' sb=>⟨.ref D,O,L.gone sb,U,q⟩⟩
def zK(i:Nat)(t:TE):TS:=λD e H=>t e H λv q=>D.nx (e.set i (some v)) q
def gv(hN:X.N.Nodup)(ee:X.N[i]?=some y)(M:X.env.scope.names.lookup y=some .local)(hc:X.calm=true)(Xb:qa N sc0 r N' ix=true)(hi:PI X J t wi)
  (hg:∀C d s H O,PG (fz X r N' C d s H O) J g) (hf:∀C d s H O,PF (fz X r N' C d s H O) Z tf) (he:∀C d s H O,PE (fz X r N' C d s H O) VE te)
  (eN:X.N=N:=by rfl) (eS:X.env.scope=sc0:=by rfl) (hs:∀x,foldedSetIterable t X.env x=pure x:=by intro _;rfl)
  (et:swapsWith (.ListComp VE [⟨J,t,Z,0⟩] r f) (some<|.Name y G) spos.line X.env=pure true:=by rfl) :
  PS X (.Assign [.Name y G] (.ListComp VE [⟨J,t,Z,0⟩] r f) spos) (zK i<|Ky wi g tf te ix):=by
 refine⟨?_⟩;intro o s σ H Dn I h;subst eN eS;rw[exec_Assign_Name_used _ _ _ _ et];refine a_ (o_<|a_ ?_);show wpAny _ X.A (do let _ <-comprehension (.ListComp VE [⟨J,t,Z,0⟩] r f) r X.env _ (newList []) false (eval t X.env) (some<|assign (.Name y G) X.env)) _ _ s;refine a_ (j_ (wS (use:=some (assign (.Name y G) X.env)) (Qf:=λ_ p=>SP X o Dn .next p) hc Xb hi hg hf he hs I h λC D j p L q=>?_) (λ_ p hq=>d_<|d_ hq) λ_ _ e=>e);show wpAny _ X.A (assign (.Name y G) X.env<|.ref D) _ _ p;refine T_ (ky L.inv hN ee (.inl M) (v:=.ref D) U (λs1 B Zi=>?_)<|.inr M);obtain⟨a,sb,ha⟩:=Zi;have Y:C≠a:=by
  rcases ha with z|z
  ·rw[z];exact L.loc
  ·exact(L.cel y a z).symm
 obtain⟨m,R⟩:=L.ns;have L1:Rp X o (σ.set i (some<|.ref D)) j s1 C:=⟨B,⟨m,R.sameBut sb Y⟩,L.free,L.loc,L.cel,L.abv,L.pin⟩;exact⟨m,R.sameBut sb Y,λh' ea=>⟨_,j,L1.gone ea,q⟩⟩
end
end L2
namespace L2
open PySem
def Nx(Pv:Nat->VA->Hp->Prop)(n i:Nat)(e:VA)(H:Hp):Prop:=∃q,q<n-i/\(q=n-(i+1)/\i+1<=n/\Pv (i+1) e H)
def Nx.mk(h:i<n)(p:Pv (i+1) e H):Nx Pv n i e H:=⟨n-(i+1),zo,U,h,p⟩
def gE(Pv:Nat->VA->Hp->Prop)(J:Pv 0 [] H)
  (d:∀i t H,i<=xs.length->Pv i t H->P8 K H a xs/\t.length<=sizeLine)
  (f:∀i x t H,xs[i]?=some x->Pv i t H->g x (kr ix o) H λz L=>QM (kr ix o) z/\tf z L λb O=>if b=true then v z O λy Y=>Nx Pv xs.length i (t++[y]) Y else Nx Pv xs.length i t O)
  (r:∀t H,Pv xs.length t H->∀D,H D=none->Q (.ref D) (aB H D<|.lst t)) :
  ym (EQ K a) g tf v ix o H Q:=by
 refine⟨λi m t H=>m=xs.length-i/\i<=xs.length/\Pv i t H,⟨xs.length,by simp,MR _,J⟩,?_⟩;rintro i m t H ⟨rfl,Z,p⟩;obtain⟨q,I⟩:=d i t H Z p;by_cases G:i<xs.length
 ·refine .inr ⟨⟨xs,xs[i],q,by simp[G]⟩,I,λx j y=>?_⟩;obtain⟨e,y⟩:=y;subst e;exact f i x t _ (y xs q) p
 ·have e:i=xs.length:=by lia
  subst e;exact .inl ⟨⟨xs,q,Ml _⟩,I,r t H p⟩
def zL(Pv:Nat->VA->Hp->Prop)(G:Pv 0 [] H)
  (Z:∀i t H,i<=n->Pv i t H->t.length<=sizeLine)
  (d:∀i t H,i<n->Pv i t H->g (.int<|lo+i) (kr ix o) H λq L=>QM (kr ix o) q/\tf q L λb z=>if b=true then f q z λy Y=>Nx Pv n i (t++[y]) Y else Nx Pv n i t z)
  (r:∀t H,Pv n t H->∀D,H D=none->Q (.ref D) (aB H D<|.lst t)) :
  ym (FV lo n) g tf f ix o H Q:=by
 refine⟨λi m t H=>m=n-i/\i<=n/\Pv i t H,⟨n,by simp,MR _,G⟩,?_⟩;rintro i m t H ⟨rfl,J,p⟩;have I:=Z i t H J p;by_cases O:i<n
 ·refine .inr ⟨O,I,λx v y=>?_⟩;obtain⟨e,y⟩:=y;subst e y;exact d i t _ O p
 ·have e:i=n:=by lia
  subst e;exact .inl ⟨Ml _,I,r t H p⟩
def eO{e:St}{H:Hp}{A B:Hp->Prop}(h:A H):Ix e H λb q=>if b=true then A q else B q:=by
 show if true=true then A H else B H;rw[g_ rfl];exact h
end L2
namespace L2
open PySem PySem.Spec PyProof.Rows
def zM(w:Vu)(p:Str×V)(e:DictEntry):Prop:=e.hash=hashStr w p.1/\(∃t,e.key=.str p.1 t)/\Qd p.2 e.val
def lX(w:Vu)(K:ZF)(a:Vr)(e:List (Str×V)):Prop:=
 ∃(q:Array DictEntry)(ep:Nat),K.lookup a=some {cls:=.type "dict",data:=.dict q ep}/\Paired (zM w) e q.toList
def sw:∀{o:List (Str×V)}{q:List DictEntry},Paired (zM w) o q->∀e∈q,∃k,(strKind P w).is k e.key=true/\e.hash=(strKind P w).hash k
 |_,_,.nil,_,h=>nomatch h
 |(x,y)::r,e::q,.cons h t,i,f=>by
  rcases Mo.mp f with z|z
  ·subst z;obtain⟨d,⟨O,m⟩,I⟩:=h;refine⟨x,?_,d⟩;rw[m];show Value.isStrOf x (.str x O)=true;simp[Value.isStrOf]
  ·exact sw t i z
mutual
inductive Dt(K:ZF)(H:Hp):V->PyData->Prop
 |non:Dt K H .non .none
 |bl (b:Bool):Dt K H (.bl b) (.bool b)
 |int (i:Int):Dt K H (.int i) (.int i)
 |str (x:Str):Dt K H (.str x) (.str x)
 |lst {a:Vr} {t:VA} {e:List PyData}:P8 K H a t->Qx K H t e->Dt K H (.ref a) (.list e)
 |tup {a:Vr} {t:VA} {e:List PyData}:P5 K H a t->Qx K H t e->Dt K H (.ref a) (.tuple e)
inductive Qx(K:ZF)(H:Hp):VA->List PyData->Prop
 |nil:Qx K H [] []
 |cons {v:V} {d:PyData} {vs:VA} {e:List PyData}:Dt K H v d->Qx K H vs e->Qx K H (v::vs) (d::e)
end
section
mutual
def Dt.reads(I:P6 X f p H s):∀{v:V}{d:PyData}{u:Vq},Dt X.K H v d->Qd v u->∃as,Reads s.heap u d as
 |_,_,_,.non,r=>by cases r;exact⟨_,.none⟩
 |_,_,_,.bl b,r=>by cases r;exact⟨_,.bool b⟩
 |_,_,_,.int i,r=>by obtain⟨t,rfl⟩:=r;exact⟨_,.int i t⟩
 |_,_,_,.str x,r=>by obtain⟨t,rfl⟩:=r;exact⟨_,.str x t⟩
 |_,_,_,.lst O z,r=>by
  cases r;obtain⟨Y,D,⟨o,n,e,c,L,m⟩,G⟩:=I.list O;obtain⟨as,q⟩:=Qx.reads I z D;first
   |exact⟨_,.list e c m<|by simpa using q⟩
   |exact⟨_,.list e c L<|by simpa using q⟩
 |_,_,_,.tup O z,r=>by
  cases r;obtain⟨Y,D,⟨o,e,c,n,m⟩,G⟩:=I.tuple O;obtain⟨as,q⟩:=Qx.reads I z D;exact⟨_,.tuple e c m<|by simpa using q⟩
def Qx.reads(I:P6 X o f H s):∀{vs:VA}{e:List PyData}{i:List Vq},Qx X.K H vs e->Qb vs i->∃as,ReadsAll s.heap i e as
 |_,_,_,.nil,.nil=>⟨_,.nil⟩
 |_,_,_,.cons h t,.cons r q=>by
  obtain⟨z,d⟩:=Dt.reads I h r;obtain⟨O,m⟩:=Qx.reads I t q;exact⟨_,.cons d m⟩
end
end
section
inductive SD(K:ZF)(x:V)(y:V)(H:Hp)(Q:VK):Prop
 |mk(e dy:_):Dt K H x e->Dt K H y dy->e.canLay0=true->dy.canLay0=true->min e.depth dy.depth<=60->Q (.bl<|PyData.eqv e dy) H->SD K x y H Q
inductive Sx(K:ZF)(x:V)(y:V)(H:Hp)(Q:VK):Prop
 |mk(e dy:_):Dt K H x e->Dt K H y dy->e.canLay0=true->dy.canLay0=true->min e.depth dy.depth<=60->Q (.bl<|!PyData.eqv e dy) H->Sx K x y H Q
def So(hr:P9 k X.A):fM X (compareOp .Eq) (SD X.K):=by
 intro e s i H x y v u Q I Y G h;obtain⟨Z,dy,t,o,z,O,J,q⟩:=h;obtain⟨as,D⟩:=t.reads I Y;obtain⟨bs,L⟩:=o.reads I G;exact SeqAt.compareEq_reads D L z O (by have:=hr.un;lia) ⟨.bl _,H,I,U,q⟩
def QA(hr:P9 k X.A):fM X (compareOp .NotEq) (Sx X.K):=by
 intro e s i H x y v u Q I Y G h;obtain⟨Z,dy,t,o,z,O,J,q⟩:=h;obtain⟨as,D⟩:=t.reads I Y;obtain⟨bs,L⟩:=o.reads I G;exact SeqAt.compareNe_reads D L z O (by have:=hr.un;lia) ⟨.bl _,H,I,U,q⟩
end
def Ss(q:List Int):PyData:=.list (q.map .int)
section
variable{H:Hp}{K:ZF}
def Rf:∀(q:List Int),Qx K H (q.map V.int) (q.map PyData.int)
 |[]=>.nil
 |n::r=>.cons (.int n) (Rf r)
def Sv{a:Vr}{q:List Int}(h:P8 K H a (q.map V.int)):Dt K H (.ref a) (Ss q):=.lst h (Rf q)
def Q6:∀q:List Int,PyData.canLayAll0 (q.map PyData.int)=true
 |[]=>rfl
 |n::r=>by
  show(true&&PyData.canLayAll0 (r.map PyData.int))=true;rw[Q6 r];rfl
end
section
variable{t:St}
def P6.turnedS{X:Cx}{i:List (Vr×Obj)}{H L:Hp}{s:Vs}{h':Heap}{t':Nat}{ch:List Vr}(I:P6 X i t H s)(G:∀b∈ch,QO X i H b)
  (k:∀b o,b∉ch->s.heap.get? b=some o->h'.get? b=some o) (D:∀b o,H b=some o->L b=some o) (hN:∀b,b<s.heap.objs.size->H b=none->L b=none)
  (new:∀b o,H b=none->L b=some o->Qe X.prog X.w L h' b o):P6 X i t L {s with heap:=h',toks:=t'}:=by
 refine I.step (g':=s.gens) (d':=s.drawn) (ch:=ch) (λb d=>?_) (λb o _ _ O e _=>k b o O e) (λb o _ _ O e _=>⟨o.slots,k b o O e⟩) (λb o _ e n=>hN b (Mm e) n)
  (λb o O e=>⟨o,k b o O e⟩) (λb j e=>D b _ e) (λb o u e=>D b _ e) (λb N e=>⟨#[],by rw[D b _ e];simp⟩) (λm f=>?_) (λb u e=>?_) I.bare
 ·obtain⟨_,Z,_,f3,f4,f5⟩:=G b d;exact⟨f3,Z,f4,f5⟩
 ·obtain⟨o,J,ep,p,r⟩:=f;exact⟨o,J,ep,k _ o (λz=>(G _ z).2.1 U) p,r⟩
 ·cases q:H b with
  |none=>exact new b u q e
  |some v=>
   rw[D b v q]at e;cases e;refine(I.hok b u q).stay (λc v O Y=>k c v (λz=>?_) Y) (λc Y=>D c _ Y) λc j Y=>D c _ Y;have n:=(G c z).1;rcases O with rfl|O
   ·rw[q]at n;cases n
   ·rw[O]at n;cases n
def Iy(K:ZF)(l1 l2:Vr):It:=
 ⟨λi H=>∃e o x y,P8 K H l1 e/\P8 K H l2 o/\e[i]?=some x/\o[i]?=some y,
  λi H v q=>∃T x y,v=.ref T/\H T=none/\q=aB H T (.tup [x,y])/\(∀e,P8 K H l1 e->e[i]?=some x)/\∀o,P8 K H l2 o->o[i]?=some y,
  λi H=>∃e o,P8 K H l1 e/\P8 K H l2 o/\(e.length<=i\/o.length<=i)⟩
def zN{P:Vt}{w:Vu}{K:ZF}{We:List Expr}{kt:Nat}{tp:Pos}{z TI TO f p l1 l2:Vr}(D:ZipApart z TI TO f p l1 l2):
  oJ P w K (.Tuple We kt tp) (Iy K l1 l2) [z,TI,TO,f,p] z (λi h=>IsZip h z TI TO .none/\IsPair h TI (.ref f) (.ref p)/\(∃a b,IsPair h TO a b)/\h.IsListIter f l1 i/\h.IsListIter p l2 i) where
 mem:=by simp
 obj:=λi h st b O=>by
  obtain⟨G,Y,⟨a,c,J⟩,⟨o1,r,_,d1⟩,⟨o2,d,_,d2⟩⟩:=st;simp at O;rcases O with rfl|rfl|rfl|rfl|rfl
  ·exact⟨_,G,λv q=>by cases q⟩
  ·exact⟨_,Y,λv q=>by cases q⟩
  ·exact⟨_,J,λv q=>by cases q⟩
  ·exact⟨_,r,λv q=>by rw[d1]at q;cases q⟩
  ·exact⟨_,d,λv q=>by rw[d2]at q;cases q⟩
 keep:=λi h h' st k=>by
  obtain⟨G,Y,⟨a,c,J⟩,r,d⟩:=st;exact⟨k z (by simp) _ G,k TI (by simp) _ Y,⟨a,c,k TO (by simp) _ J⟩,r.at λo e=>k f (by simp) o e,d.at λo e=>k p (by simp) o e⟩
 item:=by
  intro X hP hw hK L i m s t H E I N st M;subst hP hw hK;obtain⟨xs,ys,x,y,R,C,ex,ey⟩:=M;obtain⟨G,Y,⟨a,c,J⟩,r,d⟩:=st;obtain⟨VJ,Xm,B,z1⟩:=I.list R;obtain⟨Wx,Z,p2,z2⟩:=I.list C;obtain⟨u1,ee,ea⟩:=Xm.get ex;obtain⟨u2,et,ei⟩:=Z.get ey;refine wpAny_pyNext_zip_item D G Y J r d B.isList p2.isList (x:=u1) (y:=u2) (by simpa using ee) (by simpa using et) λh' a1 a2 a3 a4 a5 a6 a7=>⟨_,U,?_⟩;refine wpAny_letOwnedTupleGo_zip a1 λWQ b1 j=>?_;have hT:H s.heap.objs.size=none:=I.hok.fresh (Ml _);have Xn:∀b o,s.heap.get? b=some o->b≠s.heap.objs.size:=λb o e=>ME (Mm e);refine⟨.ref s.heap.objs.size,aB H s.heap.objs.size<|.tup [x,y],?_,U,⟨s.heap.objs.size,x,y,U,hT,U,λen h=>by rw[I.list_inj h R];exact ex,λVS h=>by rw[I.list_inj h C];exact ey⟩,?_,λb O=>?_⟩
  ·show P6 X m t (aB H s.heap.objs.size<|.tup [x,y]) {s with heap:=WQ,toks:=s.toks};refine P6.turnedS (s:=s) (h':=WQ) (t':=s.toks) (ch:=[z,TO,f,p]) I (λb O=>N b ?_) (λb o L e=>?_) (λb o e=>by rw[al<|au e hT];exact e) (λb O n=>by rw[al<|ME O];exact n) λb o n e=>?_
   ·simp at O⊢;rcases O with rfl|rfl|rfl|rfl<;>simp
   ·simp at L;exact j.extBut b o L.1 (a7 b o L.1 L.2.1 L.2.2.1 L.2.2.2 e)
   ·by_cases eb:b=s.heap.objs.size
    ·subst eb;rw[aa]at e;cases e;refine⟨Qa,[u1,u2],.cons ea<|.cons ei .nil,_,j.extBut _ _ ?_ a5,U,_,U⟩;exact λq=>Xn z _ G q.symm
    ·rw[al eb,n]at e;cases e
  ·refine⟨b1,j.extBut _ _ D.TIz<|a7 _ _ D.TIz D.TITO D.TIi1 D.TIi2 Y,⟨_,_,j.extBut _ _ D.TOz a2⟩,a3.at λo e=>j.extBut _ o D.i1z e,a4.at λo e=>j.extBut _ o D.i2z e⟩
  ·have n:=(N b O).1;have:b≠s.heap.objs.size:=by
    simp at O;obtain⟨_,q1,_⟩:=id r;obtain⟨_,q2,_⟩:=id d;rcases O with rfl|rfl|rfl|rfl|rfl
    ·exact Xn _ _ G
    ·exact Xn _ _ Y
    ·exact Xn _ _ J
    ·exact Xn _ _ q1
    ·exact Xn _ _ q2
   rw[al this];exact n
 done:=by
  intro X hP hw hK L i m s t H E I N st M;subst hP hw hK;obtain⟨xs,ys,R,C,hl⟩:=M;obtain⟨G,Y,⟨a,c,J⟩,r,d⟩:=st;obtain⟨VJ,Xm,B,z1⟩:=I.list R;obtain⟨Wx,Z,p2,z2⟩:=I.list C;have e1:=Xm.length;have e2:=Z.length;have Yp:VJ.toArray[i]?=none\/Wx.toArray[i]?=none:=by
   rcases hl with h|h
   ·exact .inl (by simp;lia)
   ·exact .inr (by simp;lia)
  refine wpAny_pyNext_zip_end (I.ok.hd L) D G Y J r d B.isList p2.isList Yp λh' k=>⟨U,?_⟩;refine I.turnedS (t':=s.toks) (ch:=[z,TO,f,p]) (λb O=>N b ?_) (λb o L e=>?_) (λb o e=>e) (λb O n=>n) λb o n e=>?_
  ·simp at O⊢;rcases O with rfl|rfl|rfl|rfl<;>simp
  ·simp at L;exact k b o L.1 L.2.1 L.2.2.1 L.2.2.2 e
  ·rw[n]at e;cases e
 self:=λ_ _ _ _ _ st h=>wpAny_pyIter_zip st.1 h
section
inductive E4(K:ZF)(R:It->Hp->Prop)(vs:VA)(e:Hp):Prop
 |mk(l1 l2:_):vs=[.ref l1,.ref l2]->(∃o,P8 K e l1 o)->(∃i,P8 K e l2 i)->R (Iy K l1 l2) e->E4 K R vs e
def Kz(K:ZF)(z:TA):TI:=λt H R=>z t H λvs q=>E4 K R vs q
def zO:bootBuiltins "zip"=some (.type "zip"):=by decide +kernel
def zP{We:List Expr}{kt:Nat}{tp:Pos}{a b:Expr}{j:TA}{p i:Pos}(hg:Gl X "zip")(hm:X.mg "zip"=none)(B:PA X [a,b] j)(hs:starEach [a,b] X.env=[(false,eval a X.env),(false,eval b X.env)]:=by rfl)(Z:starEach [b] X.env=[(false,eval b X.env)]:=by rfl):
  PI X (.Tuple We kt tp) (.Call (.Name "zip" p) [a,b] [] i) (Kz X.K j):=by
 refine⟨?_⟩;intro o s t H R I h;refine Call_ (i4 I hg hm zO<|Nq (bL (B i o s t H _ I h) λus z D=>?_) (by rw[hs,Z])<|by rw[Z];rfl);obtain⟨vs,N,O,r1,q1⟩:=D;obtain⟨l1,l2,e,⟨xs,hx⟩,⟨ys,hy⟩,q⟩:=q1;subst e;cases r1 with
 |cons r G=>
  cases G with
  |cons r' G=>
   cases G;cases r;cases r';obtain⟨VJ,Xm,f,z1⟩:=O.list hx;obtain⟨Wx,ee,v,z2⟩:=O.list hy;refine call_zip_2 f.isList v.isList λh' d C M a4 a5 a6 a7=>?_;refine wpAny_pyIter_zip d ?_;have L:l1<z.heap.objs.size:=by obtain⟨_,e,_⟩:=f.isList;exact Mm e
   have Y:l2<z.heap.objs.size:=by obtain⟨_,e,_⟩:=v.isList;exact Mm e
   refine⟨_,[z.heap.objs.size+4,z.heap.objs.size+2,z.heap.objs.size+3,z.heap.objs.size,z.heap.objs.size+1],_,_,N,U,O.kept (t':=z.toks) a7,zN<|PyProof.Rows.zipApart_new L Y,⟨d,C,⟨_,_,M⟩,a4,a5⟩,λb m=>?_,q⟩;have J:z.heap.objs.size<=b:=by
    simp only[Mo,Mu,l_]at m;rcases m with e|e|e|e|e<;>rw[e]
    ·exact C_ _ _
    ·exact C_ _ _
    ·exact C_ _ _
    ·exact Ml _
    ·exact C_ _ _
   exact O.fpOk J (O.hok.fresh J)
end
def wT{K:ZF}{l1 l2:Vr}{xs ys:VA}{g:TG}{o:TS}{D:Qr}{H:Hp}(ee:xs.length=ys.length)(Pv:Nat->St->Hp->Prop)(h0:Pv 0 t H)(f:∀i t H,i<=xs.length->Pv i t H->P8 K H l1 xs/\P8 K H l2 ys)
  (v:∀i x y t H T,xs[i]?=some x->ys[i]?=some y->H T=none->Pv i t H->g (.ref T) t (aB H T<|.tup [x,y]) λO L=>o {D with nx:=Pv (i+1),ct:=Pv (i+1),bk:=D.nx} O L) (r:∀t H,Pv xs.length t H->D.nx t H) :
  ∃W:Nat->Nat->St->Hp->Prop,(∃m,W 0 m t H)/\∀i m t H,W i m t H->
   ((Iy K l1 l2).stop i H/\D.nx t H)\/((Iy K l1 l2).go i H/\∃N:St->Hp->Prop,(∀z q,N z q->∃Z,Z<m/\W (i+1) Z z q)/\∀x q,(Iy K l1 l2).yld i H x q->g x t q λO L=>o {D with nx:=N,ct:=N,bk:=D.nx} O L):=by
 refine⟨λi m t H=>m=xs.length-i/\i<=xs.length/\Pv i t H,⟨xs.length,by simp,MR _,h0⟩,?_⟩;rintro i m t H ⟨rfl,d,p⟩;obtain⟨Y,G⟩:=f i t H d p;by_cases J:i<xs.length
 ·have I:i<ys.length:=by lia
  refine .inr ⟨⟨xs,ys,xs[i],ys[i],Y,G,by simp[J],by simp[I]⟩,Pv<|i+1,λz q p'=>⟨xs.length-(i+1),zo,U,J,p'⟩,λx q y=>?_⟩;obtain⟨T,x1,y1,rfl,hT,rfl,ex,ey⟩:=y;exact v i x1 y1 t H T (ex xs Y) (ey ys G) hT p
 ·have e:i=xs.length:=by lia
  subst e;exact .inl ⟨⟨xs,ys,Y,G,.inl<|Ml _⟩,r t H p⟩
end
section
def iZ(q:Gl X x)(z:X.mg x=none)(I:bootBuiltins x=some (.type n))(O:x≠"__name__":=by decide)(e:(x==("__debug__":Str))=false:=by decide):PE X (.Name x t) (tC<|.ty n):=
 CP q z I U O e
def o8:∀{o:List (Str×V)}{z:List DictEntry},Paired (zM w) o z->∃vs:List (Str×Vq),Pairs (strKind P w) z vs/\vs.map (·.1)=o.map (·.1)
 |_,_,.nil=>⟨[],.nil,U⟩
 |(x,y)::r,e::z,.cons h t=>by
  obtain⟨vs,p,q⟩:=o8 (P:=P) t;obtain⟨d,⟨O,i⟩,I⟩:=h;refine⟨(x,e.val)::vs,.cons ?_ U p,by rw[Mz,Mz,q]⟩;rw[i];show Value.isStrOf x (.str x O)=true;simp[Value.isStrOf]
def o9:∀{q:Vx}{o:List Vq},o.length=q.length->(∀(j:Nat)k u,q[j]?=some k->o[j]?=some u->(strKind P w).is k u=true)->Qb (q.map V.str) o
 |[],[],_,_=>.nil
 |k::q,[],h,_=>by cases h
 |[],u::o,h,_=>by cases h
 |k::q,u::o,h,i=>by
  refine .cons ?_ (o9 (P:=P) (w:=w) (by simpa using h) λj z O a b=>i (j+1) z O (by simpa using a)<|by simpa using b);obtain⟨t,e⟩:=Value.isStrOf_shape (i 0 k u U U);exact⟨t,e⟩
def oO(m:X.calm=true):eD X (.type "list") (λo H Q=>∃a kvs,o=[.ref a]/\lX X.w X.K a kvs/\(kvs.map (·.1)).Nodup/\(a==sysModules)=false/\kvs.length<=1000/\∀p,H p=none->Q (.ref p) (aB H p<|.lst (kvs.map λD=>V.str D.1))):=by
 intro t s σ H o B Q I r h;obtain⟨a,kvs,rfl,⟨d,ep,f,G⟩,nd,lo,M,q⟩:=h;cases r with
 |cons r0 rr=>
  cases rr;cases r0;have N:=I.kIn a _ f;obtain⟨vs,pv,L⟩:=o8 (P:=X.prog) G;have Z:s.heap.DictAt (strKind X.prog X.w) a vs ep:=⟨_,d,N,⟨U,U,U⟩,U,λe J=>sw G e (by simpa using J),pv,by rw[L];exact nd⟩;have v:vs.length=kvs.length:=by
   have:=e_ List.length L;simpa using this
  have sz:(1000:Nat)<=sizeLine:=by decide
  refine PySem.W.kdl_call (PySem.W.kdl_dict (knd:=strKind X.prog X.w) (kvs:=vs) (ep:=ep) lo) (I.ok.hd m) Z zo λC tk z c' O hD Y=>?_;have R:Qb ((kvs.map (·.1)).map V.str) z.toList:=by
   refine o9 (P:=X.prog) (w:=X.w) (by rw[NE,Y.1,Me,v]) λj k u e1 e2=>?_;obtain⟨k',x',i,e4⟩:=Y.2 j u (by rw[<-Array.getElem?_toList];exact e2);rw[<-L,Mt,i]at e1;have:k'=k:=by simpa using e1
   rw[<-this];exact e4
  have e0:kvs.map (λD=>V.str D.1)=(kvs.map (·.1)).map V.str:=by rw[M8];rfl
  refine⟨.ref s.heap.objs.size,aB H s.heap.objs.size<|.lst (kvs.map λD=>V.str D.1),I.laid (t':=tk) O (Ml _) ?_,U,q _<|I.hok.fresh<|Ml _⟩;refine⟨by rw[Me];lia,z.toList,c',by rw[e0];exact R,?_⟩;rw[hD]
end
end L2
namespace TK
def gU(c:Nat):Bool:=c==32||c==10
def dY(c:Nat):Bool:=[40,41,123,125,91,93,44,59,43,45,38,124,94,60,61].contains c
def kJ:Vy->Nat
 |[]=>0
 |[c]=>if dY c then 1 else 0
 |c::d::_=>if(c==60&&d==60)||(c==62&&d==62)then 2 else if dY c then 1 else 0
def run:Vy->Nat
 |[]=>0
 |c::r=>if gU c||kJ (c::r) != 0 then 0 else 1+run r
def fQ(c:Nat):kJ [c]=if dY c=true then 1 else 0:=rfl
def ff(c d:Nat)(r:Vy):kJ (c::d::r)=if((c==60&&d==60)||(c==62&&d==62))=true then 2 else if dY c=true then 1 else 0:=rfl
def cJ(c:Nat)(r:Vy):run (c::r)=if(gU c||kJ (c::r) != 0)=true then 0 else 1+run r:=by rw[run]
def qc(l:Vy):kJ l<=l.length:=by
 match l with
 |[]=>simp[kJ]
 |[c]=>rw[fQ];split<;>simp
 |c::d::r=>rw[ff];split<;>(try split)<;>simp
def qd:∀l:Vy,run l<=l.length
 |[]=>by simp[run]
 |c::r=>by
  have:=qd r;rw[cJ];split<;>simp<;>lia
def one(l:Vy):Nat:=if kJ l=0 then run l else kJ l
def lY(h:gU c=false):0<one (c::r):=by
 unfold one;by_cases e:kJ (c::r)=0
 ·rw[g_ e];rw[cJ,h,e];simp;lia
 ·rw[f_ e];lia
def F6(l:Vy):one l<=l.length:=by
 unfold one;split
 ·exact qd l
 ·exact qc l
def lM:Nat->Vy->List (Vy)
 |0,_=>[]
 |_,[]=>[]
 |n+1,c::r=>if gU c then lM n r else(c::r).take (one (c::r))::lM n ((c::r).drop<|one (c::r))
def jd:∀(n m:Nat)(l:Vy),l.length<=n->l.length<=m->lM n l=lM m l
 |0,0,_,_,_=>rfl
 |0,m+1,l,h,_=>by
  have:l=[]:=Nw.mp zo;subst this;rfl
 |n+1,0,l,_,h=>by
  have:l=[]:=Nw.mp zo;subst this;rfl
 |n+1,m+1,[],_,_=>rfl
 |n+1,m+1,c::r,e,t=>by
  simp only[Mg]at e t;unfold lM;by_cases g:gU c=true
  ·rw[g_ g,g_ g];exact jd n m r zo zo
  ·rw[f_ g,f_ g];have p:=lY (r:=r) (by simpa using g);rw[jd n m _ (by rw[MY,Mg];lia)<|by rw[MY,Mg];lia]
def toks(l:Vy):List (Vy):=lM l.length l
def sx:toks []=[]:=rfl
def mX(h:gU c=true):toks (c::r)=toks r:=by
 unfold toks;rw[Mg];show(if gU c then lM r.length r else _)=_;rw[g_ h]
def sy(h:gU c=false):toks (c::r)=(c::r).take (one (c::r))::toks ((c::r).drop<|one (c::r)):=by
 unfold toks;rw[Mg];show(if gU c then _ else(c::r).take (one (c::r))::lM r.length ((c::r).drop<|one (c::r)))=_;rw[f_<|by rw[h];decide];have p:=lY (r:=r) h;rw[jd r.length _ _ (by rw[MY,Mg];lia)<|Ml _]
structure Tok(t:Vy):Prop where
 cut:∀s:Vy,(s=[]\/∃c r,s=c::r/\gU c=true)->one (t++s)=t.length
 ne:t≠[]
 ng:∀c∈t,gU c=false
def sB(h:Tok t)(q:s=[]\/∃c r,s=c::r/\gU c=true):toks (t++s)=t::toks s:=by
 cases t with
 |nil=>exact absurd U h.ne
 |cons c r=>
  have g:=h.ng c Mf;have e:=h.cut s q;rw[Nl]at e⊢;rw[sy g,e];have e1:(c::(r++s)).take (c::r).length=c::r:=by rw[<-Nl,List.take_left'];rfl
  have e2:(c::(r++s)).drop (c::r).length=s:=by rw[<-Nl,List.drop_left'];rfl
  rw[e1,e2]
def wU:∀(l s:Vy),(s=[]\/∃c r,s=c::r/\gU c=true)->run (l.take (run l)++s)=run l
 |[],s,I=>by
  rcases I with rfl|⟨c,r,rfl,g⟩
  ·rfl
  ·show run (c::r)=0;rw[cJ,g];simp
 |c::r,s,I=>by
  by_cases q:(gU c||kJ (c::r) != 0)=true
  ·have e:run (c::r)=0:=by rw[cJ,g_ q]
   rw[e];rcases I with rfl|⟨d,r',rfl,g⟩
   ·rfl
   ·show run (d::r')=0;rw[cJ,g];simp
  ·have e:run (c::r)=1+run r:=by rw[cJ,f_ q]
   rw[e,Nat.add_comm 1,Th,Nl];have Z:=wU r s I;simp at q;obtain⟨qg,O⟩:=q;have i:(gU c||kJ (c::(r.take (run r)++s)) != 0)=false:=by
    rw[qg];simp;have o:dY c=false:=by
     cases r with
     |nil=>
      rw[fQ]at O;split at O
      ·cases O
      ·rename_i D;simpa using D
     |cons d m=>
      rw[ff]at O;split at O
      ·cases O
      ·split at O
       ·cases O
       ·rename_i D;simpa using D
    cases hh:r.take (run r)++s with
    |nil=>rw[fQ,o];rfl
    |cons d m=>
     rw[ff,o];have nd:((c==60&&d==60)||(c==62&&d==62))=false:=by
      cases r with
      |nil=>
       rw[List.take_nil,NO]at hh;rcases I with z|⟨G,L,z,g⟩
       ·rw[z]at hh;cases hh
       ·rw[z]at hh;injection hh with t _;subst t;unfold gU at g;simp at g;rcases g with rfl|rfl<;>simp
      |cons Y L=>
       by_cases z0:run (Y::L)=0
       ·rw[z0,Ua,NO]at hh;rcases I with z|⟨G,r4,z,g⟩
        ·rw[z]at hh;cases hh
        ·rw[z]at hh;injection hh with t _;subst t;unfold gU at g;simp at g;rcases g with rfl|rfl<;>simp
       ·obtain⟨k,J⟩:∃k,run (Y::L)=k+1:=⟨run (Y::L)-1,zo⟩;rw[J,Th,Nl]at hh;injection hh with t _;subst t;rw[ff]at O;split at O
        ·cases O
        ·rename_i D;simpa using D
     rw[nd];rfl
   rw[show run (c::(r.take (run r)++s))=1+run (r.take (run r)++s)by rw[cJ,f_<|by rw[i];decide],Z,Nat.add_comm]
def zQ:∀(l:Vy),∀c∈l.take (run l),gU c=false
 |[],_,h=>by cases h
 |c::r,d,h=>by
  by_cases q:(gU c||kJ (c::r) != 0)=true
  ·rw[cJ,g_ q]at h;cases h
  ·rw[cJ,f_ q,Nat.add_comm,Th]at h;rcases Mo.mp h with z|z
   ·subst z;simp at q;exact q.1
   ·exact zQ r d z
def yn(h:((c==60&&d==60)||(c==62&&d==62))=true):gU c=false/\gU d=false:=by
 simp at h;rcases h with⟨rfl,rfl⟩|⟨rfl,rfl⟩<;>exact⟨U,U⟩
def yo(h:gU d=true):((c==60&&d==60)||(c==62&&d==62))=false:=by
 unfold gU at h;simp at h;rcases h with rfl|rfl<;>simp
def lZ(h:gU c=false):Tok ((c::r).take<|one (c::r)):=by
 by_cases e:kJ (c::r)=0
 ·have o:one (c::r)=run (c::r):=g_ e;have rp:0<run (c::r):=by rw[<-o];exact lY h
  rw[o];refine⟨λs I=>?_,λz=>?_,zQ _⟩
  ·have Y:=wU (c::r) s I;have s0:kJ ((c::r).take (run (c::r))++s)=0:=by
    cases hh:(c::r).take (run (c::r))++s with
    |nil=>rfl
    |cons d O=>
     rw[hh,cJ]at Y;split at Y
     ·lia
     ·rename_i q;simp at q;exact q.2
   unfold one;rw[g_ s0,Y,Mp];have:=qd (c::r);lia
  ·have:=e_ List.length z;rw[Mp]at this;have:=qd (c::r);simp at*;lia
 ·have o:one (c::r)=kJ (c::r):=f_ e;rw[o];have key:(dY c=true/\kJ (c::r)=1)\/∃d O,r=d::O/\((c==60&&d==60)||(c==62&&d==62))=true/\kJ (c::r)=2:=by
   cases r with
   |nil=>
    rw[fQ]at e⊢;split at e
    ·rename_i q;exact .inl ⟨q,by rw[g_ q]⟩
    ·exact absurd U e
   |cons d O=>
    rw[ff]at e⊢;by_cases q:((c==60&&d==60)||(c==62&&d==62))=true
    ·exact .inr ⟨d,O,U,q,by rw[g_ q]⟩
    ·rw[f_ q]at e⊢;by_cases L:dY c=true
     ·exact .inl ⟨L,by rw[g_ L]⟩
     ·rw[f_ L]at e;exact absurd U e
  rcases key with⟨t,G⟩|⟨d,O,rfl,J,G⟩
  ·rw[G];refine⟨λs I=>?_,by simp,λx D=>?_⟩
   ·show one (c::s)=1;have:kJ (c::s)=1:=by
     rcases I with rfl|⟨d,O,rfl,g⟩
     ·rw[fQ,g_ t]
     ·rw[ff,yo g,f_ zd,g_ t]
    unfold one;rw[this];rfl
   ·have:x=c:=by simpa using D
    rw[this];exact h
  ·rw[G];refine⟨λs I=>?_,by simp,λx D=>?_⟩
   ·show one (c::d::s)=2;have:kJ (c::d::s)=2:=by rw[ff,g_ J]
    unfold one;rw[this];rfl
   ·have Z:x=c\/x=d:=by simpa using D
    rcases Z with z|z
    ·rw[z];exact h
    ·rw[z];exact(yn J).2
def jn(sep:Vy):List (Vy)->Vy
 |[]=>[]
 |[t]=>t
 |t::u::r=>t++(sep++jn sep (u::r))
end TK
namespace L2
open PySem PySem.Spec PyProof.Rows
def S(l:Vy):Str:=⟨l.toArray⟩
def aQ(l:Vy):(S l).length=l.length:=by show l.toArray.size=_;simp
def Rs:S a=S b↔a=b:=⟨λh=>by
 have:(S a).cps.toList=(S b).cps.toList:=by rw[h]
 simpa[S]using this,λh=>by rw[h]⟩
def iV(l:Vy)(lo q:Option Int):Vy:=(l.drop<|HT.sIx l.length 0 lo).take (HT.sIx l.length l.length q-HT.sIx l.length 0 lo)
def C5(n:Nat)(v:Option Int)(d:Nat)(e:d<=n):HT.sIx n d v<=n:=by
 cases v with
 |none=>exact e
 |some i=>
  show(if i<0 then(i+(n:Int)).toNat else min i.toNat n)<=n;split<;>lia
open PySem.Builtin.Str in
def sC(lo z:Option Int)(n:Nat):strSliceIndices lo z 1 n=(List.range<|HT.sIx n n z-HT.sIx n 0 lo).map (HT.sIx n 0 lo+·):=by
 have q:∀(v:Option Int)(d:Nat),d<=n->(match v with|none=>(d:Int)|some i=>max 0<|min (if i<0 then i+(n:Int)else i) n)=((HT.sIx n d v:Nat):Int):=λv d e=>by
  cases v with
  |none=>rfl
  |some i=>
   show max 0 (min (if i<0 then i+(n:Int)else i) (n:Int))=(((if i<0 then(i+(n:Int)).toNat else min i.toNat n:Nat)):Int);by_cases h:i<0
   ·rw[g_ h,g_ h];lia
   ·rw[f_ h,f_ h];lia
 have O:=q lo 0 (MR _);have I:=q z n (Ml _);rw[<-sliceRange_one];rw[<-O,<-I];unfold strSliceIndices;simp only[show(1:Int)>0 by decide,K_];cases lo<;>cases z<;>rfl
def mY(l:Vy)(a:Nat):∀k,((List.range k).map (a+·)).filterMap (λi=>l.toArray[i]?)=(l.drop a).take k
 |0=>by simp
 |k+1=>by
  rw[TR,Mq,List.filterMap_append,mY l a k,k_]
  congr 1
  rw[List.getElem?_drop];cases q:l[a+k]? with
  |none=>simp[Nt,q]
  |some v=>simp[Nt,q]
open PySem.Builtin.Str in
def sD(l:Vy)(lo q:Option Int):(if((1:Int)==1&&(strSliceIndices lo q 1 (S l).length).length==(S l).length)=true then S l else⟨((strSliceIndices lo q 1 (S l).length).filterMap ((S l).cps[·]?)).toArray⟩)=S (iV l lo q):=by
 rw[aQ,sC];have e:((List.range<|HT.sIx l.length l.length q-HT.sIx l.length 0 lo).map (HT.sIx l.length 0 lo+·)).filterMap ((S l).cps[·]?)=iV l lo q:=mY l _ _;rw[e];by_cases c:((1:Int)==1&&((List.range<|HT.sIx l.length l.length q-HT.sIx l.length 0 lo).map (HT.sIx l.length 0 lo+·)).length==l.length)=true
 ·rw[g_ c];simp at c;have t:=C5 l.length q l.length (Ml _);have:iV l lo q=l:=by
   unfold iV;by_cases z:l.length=0
   ·have:l=[]:=Nw.mp z;subst this;simp
   ·have O:HT.sIx l.length 0 lo=0:=by lia
    rw[O,Ub,Nd zo]
  rw[this]
 ·rw[f_ c];rfl
section
def qe:J0 X (λx lo z H Q=>∃l,x=.str (S l)/\l.length<=100000/\Q (.str<|S<|iV l lo z) H):=by
 intro e s r H x v vl vu lo z G Q I rx d pl Y h;obtain⟨l,rfl,m,q⟩:=h;obtain⟨t,rfl⟩:=rx;obtain⟨os,O,L,D⟩:=id d;have sz:(100000:Nat)<=sizeLine:=by decide
 have lc:(S<|iV l lo z).length<=sizeLine:=by
  rw[aQ];unfold iV;rw[Mp,MY];lia
 refine⟨"str",_,F.slot_str_getitem.lookup,Tp _ _ _,?_⟩;have B':∀(a b:Option (Int×Tok)),a.map (·.1)=lo->b.map (·.1)=z->s.heap.IsSlice G a b none->wpAny (model X.prog X.w) X.A (getItem (.str (S l) t)<|.ref G) (EP X e r Q) X.xe s:=λa b J Z hS=>by
  refine wpAny_getItem_str_slice hS U ?_;unfold sliceMade slicePicked;rw[J,Z];refine post_val_or_str ?_;show(if((1:Int)==1&&(Builtin.Str.strSliceIndices lo z 1 (S l).length).length==(S l).length)=true then S l else⟨((Builtin.Str.strSliceIndices lo z 1 (S l).length).filterMap ((S l).cps[·]?)).toArray⟩).length<=sizeLine/\∀o k,EP X e r Q (.str (if((1:Int)==1&&(Builtin.Str.strSliceIndices lo z 1 (S l).length).length==(S l).length)=true then S l else⟨((Builtin.Str.strSliceIndices lo z 1 (S l).length).filterMap ((S l).cps[·]?)).toArray⟩) o) {s with toks:=k};rw[sD];exact⟨lc,λo k=>⟨.str<|S<|iV l lo z,H,I.tok _,⟨o,U⟩,q⟩⟩
 cases pl with
 |none=>
  cases Y with
  |none=>exact B' none none U U ⟨os,O,L,D⟩
  |int j u=>exact B' none (some (j,u)) U U ⟨os,O,L,D⟩
 |int i u0=>
  cases Y with
  |none=>exact B' (some (i,u0)) none U U ⟨os,O,L,D⟩
  |int j u=>exact B' (some (i,u0)) (some (j,u)) U U ⟨os,O,L,D⟩
def iD(c:Nat)(l:Vy):(!(Builtin.Str.occurrences (S l) (S [c]) 0 (S l).length 1).isEmpty)=decide (c∈l):=by
 rw[No,StrLaws.found_iff,P_];constructor
 ·rintro⟨i,q,e⟩;rw[aQ,aQ]at q;have I:i<l.length:=by simp at q;lia
  unfold Builtin.Str.subAt at e;have z:l.toArray.extract i (i+1)=#[c]:=eq_of_beq e;have:(l.drop i).take 1=[c]:=by
   have:=e_ Array.toList z;simpa[List.extract_eq_drop_take]using this
  have O:c∈(l.drop i).take 1:=by rw[this];simp
  exact M_ (M6 O)
 ·intro h;obtain⟨i,q,e⟩:=Tj h;refine⟨i,by rw[aQ,aQ];simp;lia,?_⟩;unfold Builtin.Str.subAt;have:l.toArray.extract i (i+1)=#[c]:=by
   apply Array.toList_inj.mp;rw[Array.toList_extract];simp[List.extract_eq_drop_take,MZ q,e]
  show(l.toArray.extract i (i+1) == #[c])=true;rw[this];exact beq_self_eq_true _
inductive E5(t:TE)(o:St)(Q:VK)(x:V)(e:Hp):Prop
 |mk(l:_):x=.str (S l)->l.length<=100000->(if l=[]then t o e Q else Q (.str<|S l) e)->E5 t o Q x e
def KB(z O:TE):TE:=λe H Q=>z e H λx q=>E5 O e Q x q
def F7{a b:Expr}{Y:List Expr}{i:Pos}{G J:TE}(Z:PE X a G)(d:PE X (.BoolOp .Or (b::Y) i) J):PE X (.BoolOp .Or (a::b::Y) i) (KB G J):=by
 refine⟨?_⟩;intro o s r H Q I h;refine BoolOp_or (bL (Z o s r H _ I h) λv p O=>?_);obtain⟨x,D,L,m,q⟩:=O;obtain⟨l,rfl,f,q⟩:=q;obtain⟨t,rfl⟩:=m;refine PySem.P.truthy_str (by rw[aQ];lia) ?_;rw[aQ];by_cases e:l=[]
 ·subst e;rw[g_ rfl]at q;exact d o _ r D Q (L.tok _) q
 ·rw[f_ e]at q;have:((l.length:Int) != 0)=true:=by
   have:l.length≠0:=λz=>e (Nw.mp z);simp;exact e
  rw[this];exact⟨.str<|S l,D,L.tok _,⟨t,U⟩,q⟩
def jH:∀{o:Vx}{e:List Vq},Qb (o.map V.str) e->StrsAre e o
 |[],_,.nil=>.nil
 |n::r,_,.cons h t=>by
  obtain⟨q,rfl⟩:=h;exact .cons n q (jH t)
def zR(sep:Vy)(e:List (Vy)):Txt.join (S sep) (e.map S)=S (TK.jn sep e):=by
 have go:∀(r:List (Vy))(q:Vy),(r.map S).foldl (λq p=>q++(S sep).cps++p.cps) q.toArray=(q++(r.map (sep++·)).flatten).toArray:=by
  intro r;induction r with
  |nil=>intro q;simp
  |cons t r z=>
   intro q;rw[Mz,List.foldl_cons];have:q.toArray++(S sep).cps++(S t).cps=(q++sep++t).toArray:=by simp[S]
   rw[this,z];simp
 have O:∀(t:Vy)(r:List (Vy)),TK.jn sep (t::r)=t++(r.map (sep++·)).flatten:=by
  intro t r;induction r generalizing t with
  |nil=>simp[TK.jn]
  |cons u r z=>
   show t++(sep++TK.jn sep (u::r))=_;rw[z u];simp
 cases e with
 |nil=>rfl
 |cons t r=>
  show(⟨((t::r).map S |>.drop 1).foldl (λq p=>q++(S sep).cps++p.cps) (((t::r).map S).headD Str.empty).cps⟩:Str)=_;rw[O];have:=go r t;show(⟨(r.map S).foldl (λq p=>q++(S sep).cps++p.cps) t.toArray⟩:Str)=_;rw[this];rfl
def fg:Iu X "str.join" (λx d H Q=>∃sep a o,x=.str (S sep)/\d=[.ref a]/\P8 X.K H a (o.map λt=>V.str<|S t)/\(o.map List.length).sum+o.length*sep.length<=100000/\Q (.str<|S<|TK.jn sep o) H):=by
 intro i s p H x d v f Q I Y L h;obtain⟨sep,a,o,rfl,rfl,z,J,q⟩:=h;obtain⟨t,rfl⟩:=Y;obtain⟨u,rfl,D⟩:=L.one;cases D;obtain⟨G,r,pl,O⟩:=I.list z;have e:(o.map λt=>V.str<|S t)=(o.map S).map V.str:=by rw[M8];rfl
 rw[e]at r;refine join_list pl.isList (ys:=o.map S) (by simpa using jH r) ?_ λm k=>?_
 ·have:((o.map S).map (·.length)).sum=(o.map List.length).sum:=by
   rw[M8]
   congr 1
  rw[this,Me,aQ];lia
 ·rw[zR];exact⟨.str<|S<|TK.jn sep o,H,I.tok _,⟨m,U⟩,q⟩
end
def sE(c d:Nat):∀O:Vx,(Str.join ⟨#[c]⟩ O).length=(Str.join ⟨#[d]⟩ O).length
 |[]=>rfl
 |[p]=>rfl
 |p::q::r=>by
  have I:=sE c d (q::r);show(p++⟨#[c]⟩++Str.join ⟨#[c]⟩ (q::r)).cps.size=(p++⟨#[d]⟩++Str.join ⟨#[d]⟩ (q::r)).cps.size;have z:(Str.join ⟨#[c]⟩ (q::r)).cps.size=(Str.join ⟨#[d]⟩ (q::r)).cps.size:=I;simp only[Str.cps_append,Array.size_append];rw[z];rfl
def zS(x:Str)(c d:Nat):(Txt.replace x ⟨#[c]⟩ ⟨#[d]⟩).length=x.length:=by
 rw[StrLaws.replace_one,sE d c,StrLaws.join_split]
section
def gF:eD X (.builtin "isinstance") (λi H Q=>∃x t b,i=[x,.ty T]/\jE X.K H x t/\PySem.W.kitOne X.K t (.type T)=some b/\Q (.bl b) H):=by
 intro o s m H i d Q I r h;obtain⟨x,t,b,rfl,ty,e,q⟩:=h;cases r with
 |cons O z=>
  cases z with
  |cons D z=>
   cases z;cases D;exact yj I O ty e λL=>⟨.bl b,H,I.tok _,U,q⟩
def zT:fM X (binaryOp .FloorDiv) (rI (λ_ j=>0<j/\j<18446744073709551616) λi j=>.int<|i / j):=HI λi j _ _ _ _ _ z q=>by
 have e:(0:Int)<j:=z.1;have t:j<18446744073709551616:=z.2;refine floordiv_int zo (by rw[T0 i zo];exact q) (.inl<|PyProof.noPylong_of_log2 ?_);have O:j.natAbs≠0:=by lia
 have:j.natAbs.log2<64:=(Nat.log2_lt O).mpr (by show j.natAbs<2^64;lia);lia
def J9(l:Vy):It:=⟨λi _=>i<l.length,λi H y q=>q=H/\∃h:i<l.length,y=.str (S [l[i]]),λi _=>l.length<=i⟩
variable{f:Expr}{K:ZF}{w:Vu}{P:Vt}
def uP(l:Vy)(t:Tok)(p:Vr):oJ P w K f (J9 l) [p] p (λi h=>h.IsStrIter p "str_ascii_iterator" (S l) t i) where
 mem:=by simp
 obj:=λi h st b q=>by
  have e:b=p:=by simpa using q
  subst e;obtain⟨o,e,c,d⟩:=st;exact⟨o,e,λv z=>by rw[d]at z;cases z⟩
 keep:=λi h j st k=>let⟨o,B,r⟩:=st;⟨o,k p (by simp) o B,r⟩
 item:=by
  intro X hP hw hK R i m s C H E I D st N;subst hP hw hK;have O:i<l.length:=N;obtain⟨L,Y,f2,G,J,Z⟩:=D p (by simp);refine wpAny_pyNext_ascii_item st (c:=l[i]) (by show l.toArray[i]?=_;simp[O]) λj Xk sb=>?_;have M:P6 X m C H {s with heap:=j,toks:=s.toks+1}:=I.turned (λb o q e=>(sb.2 b q).trans e) L Y G J Z;obtain⟨o,e,c,d⟩:=id Xk;exact⟨_,U,r9 (s:={s with heap:=j,toks:=s.toks+1}) e c d zd ⟨.str<|S [l[i]],H,M,⟨_,U⟩,⟨U,O,U⟩,Xk,λb q=>(D b q).1⟩⟩
 done:=by
  intro X hP hw hK R i m s C H E I D st N;subst hP hw hK;have O:l.length<=i:=N;obtain⟨L,Y,f2,G,J,Z⟩:=D p (by simp);exact wpAny_pyNext_ascii_end (I.ok.hd R) st (by show l.toArray[i]?=_;simp[O]) λj eb=>⟨U,I.turned (t':=s.toks) (λb o q e=>eb b o q e) L Y G J Z⟩
 self:=λ_ _ _ _ _ st h=>wpAny_pyIter_striter_ascii st h
def yp(l:Vy)(t:Tok)(p:Vr):oJ P w K f (J9 l) [p] p (λi h=>h.IsStrIter p "str_iterator" (S l) t i) where
 mem:=by simp
 obj:=λi h st b q=>by
  have e:b=p:=by simpa using q
  subst e;obtain⟨o,e,c,d⟩:=st;exact⟨o,e,λv z=>by rw[d]at z;cases z⟩
 keep:=λi h j st k=>let⟨o,B,r⟩:=st;⟨o,k p (by simp) o B,r⟩
 item:=by
  intro X hP hw hK R i m s C H E I D st N;subst hP hw hK;have O:i<l.length:=N;obtain⟨L,Y,f2,G,J,Z⟩:=D p (by simp);refine wpAny_pyNext_wide_item st (c:=l[i]) (by show l.toArray[i]?=_;simp[O]) λj Xk sb=>?_;have M:P6 X m C H {s with heap:=j,toks:=s.toks+1}:=I.turned (λb o q e=>(sb.2 b q).trans e) L Y G J Z;obtain⟨o,e,c,d⟩:=id Xk;exact⟨_,U,r9 (s:={s with heap:=j,toks:=s.toks+1}) e c d zd ⟨.str<|S [l[i]],H,M,⟨_,U⟩,⟨U,O,U⟩,Xk,λb q=>(D b q).1⟩⟩
 done:=by
  intro X hP hw hK R i m s C H E I D st N;subst hP hw hK;have O:l.length<=i:=N;obtain⟨L,Y,f2,G,J,Z⟩:=D p (by simp);exact wpAny_pyNext_wide_end (I.ok.hd R) st (by show l.toArray[i]?=_;simp[O]) λj eb=>⟨U,I.turned (t':=s.toks) (λb o q e=>eb b o q e) L Y G J Z⟩
 self:=λ_ _ _ _ _ st h=>wpAny_pyIter_striter_wide st h
inductive E6(R:It->Hp->Prop)(x:V)(e:Hp):Prop
 |mk(l:_):x=.str (S l)->R (J9 l) e->E6 R x e
def KC(tl:TE):TI:=λe H R=>tl e H λx q=>E6 R x q
def uQ{f l:Expr}{tl:TE}(J:PE X l tl):PI X f l (KC tl):=by
 refine⟨?_⟩;intro i s m H R I h;refine bL (J i s m H _ I h) λv z L=>?_;obtain⟨x,D,O,d,Z⟩:=L;obtain⟨l,e,q⟩:=Z;subst e;obtain⟨t,rfl⟩:=d;have Y:∀b∈[z.heap.objs.size],QO X i D b:=λb G=>by
  have e:b=z.heap.objs.size:=by simpa using G
  subst e;exact O.fpOk (Ml _) (O.hok.fresh<|Ml _)
 cases r:(S l).cps.all (· < 128)
 ·exact wpAny_pyIter_wide r ⟨z.heap.objs.size,[z.heap.objs.size],_,_,D,U,O.kept (t':=z.toks) λb o e=>Mh _ e,yp l t _,⟨_,MB _ U,U,U⟩,Y,q⟩
 ·exact wpAny_pyIter_ascii r ⟨z.heap.objs.size,[z.heap.objs.size],_,_,D,U,O.kept (t':=z.toks) λb o e=>Mh _ e,uP l t _,⟨_,MB _ U,U,U⟩,Y,q⟩
def uR(Pv:Nat->VA->Hp->Prop)(G:Pv 0 [] H)
  (Z:∀i t H,i<=l.length->Pv i t H->t.length<=sizeLine)
  (d:∀i t H(h:i<l.length),Pv i t H->g (.str<|S [l[i]]) (kr ix o) H λq L=>QM (kr ix o) q/\tf q L λb z=>if b=true then v q z λy Y=>Nx Pv l.length i (t++[y]) Y else Nx Pv l.length i t z)
  (r:∀t H,Pv l.length t H->∀D,H D=none->Q (.ref D) (aB H D<|.lst t)) :
  ym (J9 l) g tf v ix o H Q:=by
 refine⟨λi m t H=>m=l.length-i/\i<=l.length/\Pv i t H,⟨l.length,by simp,MR _,G⟩,?_⟩;rintro i m t H ⟨rfl,J,p⟩;have I:=Z i t H J p;by_cases O:i<l.length
 ·refine .inr ⟨O,I,λx j y=>?_⟩;obtain⟨e,h,y⟩:=y;subst e y;exact d i t _ O p
 ·have e:i=l.length:=by lia
  subst e;exact .inl ⟨Ml _,I,r t H p⟩
def ig(j:X.calm=true):eD X (.builtin "all") (λm H Q=>∃(p:Vr)(bs:List Bool),m=[.ref p]/\P8 X.K H p (bs.map V.bl)/\Q (.bl<|bs.all id) H):=by
 intro d s σ H m us Q I r h;obtain⟨p,bs,rfl,hS,q⟩:=h;obtain⟨u,rfl,rx⟩:=hZ r;cases rx;obtain⟨O,rv,pl,hz⟩:=I.list hS;have Y:=rv.length;rw[Me]at Y;have Oe:p≠s.heap.objs.size:=by
  obtain⟨o,R,_⟩:=pl.isList;exact ME (Mm R)
 refine call_all_walk (wpAny_pyIter_list pl.isList ?_);refine⟨s.heap.objs.size,_,_,_,_,_,λi=>bs.getD i true,U,Walks.list (A:=X.A.in1) (I.ok.hd j) s.heap.objs.size p Oe O.toArray,⟨⟨_,MB _ U,U,U⟩,pl.isList.at λo e=>Mh _ e⟩,?_,?_⟩
 ·intro i v s' Q' E' C L;have G:O[i]?=some v:=by simpa using C
  have Oh:i<O.length:=(Mc.mp G).1;have Z:i<bs.length:=by lia
  obtain⟨u,t,ru⟩:=rv.get (i:=i) (x:=.bl bs[i]) (by simp[Z]);rw[G]at t;cases t;cases ru;refine m_ ?_;have e:bs.getD i true=bs[i]:=by simp[List.getD,Z]
  dsimp only at L;rw[e]at L;exact L
 ·intro B tk N;have e:(List.range O.toArray.size).all (λi=>bs.getD i true)=bs.all id:=by
   rw[MF,<-Y,No,MT,MT];constructor
   ·intro z x M;obtain⟨i,D,e⟩:=Tj M;have:=z i (Nn.mpr D);rw[show bs.getD i true=bs[i]by simp[List.getD,D],e]at this;exact this
   ·intro z i D;have J:=Nn.mp D;rw[show bs.getD i true=bs[i]by simp[List.getD,J]];exact z _ (MX J)
  rw[e];exact⟨.bl _,H,I.kept λb o e=>N b o (λz=>absurd (Mm e)<|by rw[MJ.mp z];exact M7 _)<|Mh _ e,U,q⟩
end
section
variable{κ:Type} [DecidableEq κ]
def bA(i:List (κ×V))(k:κ):Option V:=(i.find? λq=>decide (q.1=k)).map (·.2)
def bh(i:List (κ×V))(k:κ)(v:V):List (κ×V):=
 if(i.any λq=>decide (q.1=k))=true then i.map (λq=>if q.1=k then(q.1,v)else q)else i++[(k,v)]
def sF{k:κ}:bA ([]:List (κ×V)) k=none:=rfl
variable{p:κ×V}
def cL{r:List (κ×V)}{k:κ}(e:p.1=k):bA (p::r) k=some p.2:=by simp[bA,NJ,e]
def cr{r:List (κ×V)}{k:κ}(e:¬p.1=k):bA (p::r) k=bA r k:=by simp[bA,NJ,e]
def ii(k:κ):∀i:List (κ×V),(i.any λq=>decide (q.1=k))=(bA i k).isSome
 |[]=>rfl
 |p::r=>by
  rw[NZ];by_cases e:p.1=k
  ·simp only[cL e,b_ e,Bool.true_or,Option.isSome_some]
  ·rw[cr e,c_ e,Bool.false_or];exact ii k r
def sG(k j:κ)(y:V):∀i:List (κ×V),bA (i.map λq=>if q.1=k then(q.1,y)else q) j=(bA i j).map λx=>if j=k then y else x
 |[]=>rfl
 |p::r=>by
  have O:=sG k j y r;rw[Mz];by_cases h:p.1=k
  ·rw[g_ h];by_cases e:p.1=j
   ·rw[cL (p:=(p.1,y)) e,cL e,N4,g_<|e.symm.trans h]
   ·rw[cr (p:=(p.1,y)) e,cr e,O]
  ·rw[f_ h];by_cases e:p.1=j
   ·rw[cL (p:=p) e,cL e,N4,f_ λz=>h<|e.trans z]
   ·rw[cr (p:=p) e,cr e,O]
def pb(k j:κ)(y:V):∀i:List (κ×V),bA i k=none->bA (i++[(k,y)]) j=if j=k then some y else bA i j
 |[],_=>by
  by_cases e:k=j
  ·rw[g_ e.symm];exact cL (p:=(k,y)) e
  ·rw[f_ λz=>e z.symm];exact cr (p:=(k,y)) e
 |p::r,t=>by
  rw[Nl];have q:¬p.1=k:=λz=>by rw[cL z]at t;cases t
  rw[cr q]at t;have O:=pb k j y r t;by_cases e:p.1=j
  ·rw[cL e,cL e,f_ λz=>q<|e.trans z]
  ·rw[cr e,cr e,O]
def sI(i:List (κ×V))(k j:κ)(y:V):bA (bh i k y) j=if j=k then some y else bA i j:=by
 unfold bh;by_cases a:(i.any λO=>decide (O.1=k))=true
 ·rw[g_ a,sG];rw[ii]at a;by_cases e:j=k
  ·obtain⟨x,z⟩:=Option.isSome_iff_exists.mp a;rw[g_ e,e,z,N4,g_ rfl]
  ·rw[f_ e];cases bA i j with
   |none=>rfl
   |some x=>rw[N4,f_ e]
 ·rw[f_ a];refine pb k j y i ?_;rw[ii]at a;cases q:bA i k with
  |none=>rfl
  |some x=>rw[q]at a;exact(a U).elim
def ij(i:List (κ×V))(k:κ)(v:V):(bh i k v).length<=i.length+1:=by
 unfold bh;split
 ·rw[Me];lia
 ·rw[Md,Mg,Mv];lia
variable{i:List (κ×V)}
def sJ{k:κ}(v:V)(h:bA i k=none):bh i k v=i++[(k,v)]:=by
 unfold bh;rw[ii,h];exact f_ zd
def QB.isSome_eq{o:Option V}{u:Option Vq}(r:QB o u):o.isSome=u.isSome:=by
 cases o with
 |none=>cases u with
  |none=>rfl
  |some _=>exact(show False from r).elim
 |some _=>cases u with
  |none=>exact(show False from r).elim
  |some _=>rfl
def KV.val{vs:List (κ×Vq)}(r:KV i vs)(k:κ):QB (bA i k) (valueAt vs k):=by
 unfold KV at r;induction r with
 |nil=>exact True.intro
 |@cons p q m I h t D=>
  obtain⟨o,d⟩:=h;by_cases e:p.1=k
  ·have O:q.1=k:=o.symm.trans e;have b:valueAt (q::I) k=some q.2:=by simp[valueAt,NJ,O]
   rw[cL e,b];exact d
  ·have O:¬q.1=k:=λz=>e (o.trans z);have b:valueAt (q::I) k=valueAt I k:=by simp[valueAt,NJ,O]
   rw[cr e,b];exact D
def KV.any{vs:List (κ×Vq)}(r:KV i vs)(k:κ):(i.any λq=>decide (q.1=k))=vs.any λq=>decide (q.1=k):=by
 unfold KV at r;induction r with
 |nil=>rfl
 |cons h t z=>rw[NZ,NZ,z,h.1]
variable{u:Vq}{y:V}
def KV.repl{vs:List (κ×Vq)}(r:KV i vs)(k:κ)(D:Qd y u):
  KV (i.map λO=>if O.1=k then(O.1,y)else O) (vs.map λO=>if O.1=k then(O.1,u)else O):=by
 unfold KV at r⊢;induction r with
 |nil=>exact .nil
 |@cons p q m L h t I=>
  rw[Mz,Mz];refine .cons ?_ I;obtain⟨o,d⟩:=h;by_cases e:p.1=k
  ·rw[g_ e,g_<|o.symm.trans e];exact⟨o,D⟩
  ·rw[f_ e,f_ λz=>e<|o.trans z];exact⟨o,d⟩
def KV.put{vs:List (κ×Vq)}(r:KV i vs)(k:κ)(q:Qd y u):KV (bh i k y) (stored vs k u):=by
 unfold bh stored;rw[r.any k];by_cases e:(vs.any λz=>decide (z.1=k))=true
 ·rw[g_ e,g_ e];exact r.repl k q
 ·rw[f_ e,f_ e];exact Paired.snoc r ⟨U,q⟩
def KV.length{vs:List (κ×Vq)}(r:KV i vs):i.length=vs.length:=Paired.length r
end
section
variable{u:Vq}{w:Vu}{P:Vt}
def pc{k:di}(r:Qd (kV k) u):(cG P w).is k u=true:=by
 cases k with
 |inl i=>obtain⟨t,e⟩:=(show ∃t,u=Value.int i t from r);subst e;exact rY P w i t
 |inr x=>obtain⟨t,e⟩:=(show ∃t,u=Value.str x t from r);subst e;exact rZ P w x t
def ph:∀{q:List di}{e:List Vq},Qb (q.map kV) e->ItemsAre (cG P w) q e
 |[],_,r=>by rw[Ny]at r;cases r;exact .nil
 |k::q,_,r=>by
  rw[Mz]at r;cases r with
  |cons h t=>exact .cons (pc h) (ph t)
abbrev KT(H:Hp):List (List di×V)->List (List di×Vr×Vq)->Prop:=Paired λp q=>p.1=q.1/\H q.2.1=some (.tup<|p.1.map kV)/\Qd p.2 q.2.2
variable{j:List (List di×Vr×Vq)}{f:List (List di×V)}{H:Hp}
def KT.val(r:KT H f j)(k:List di):QB (bA f k) ((atKey j k).map (·.2)):=by
 induction r with
 |nil=>exact True.intro
 |@cons p q d I h t D=>
  obtain⟨o,_,i⟩:=h;by_cases e:p.1=k
  ·have O:q.1=k:=o.symm.trans e;have b:atKey (q::I) k=some q.2:=by simp[atKey,NJ,O]
   rw[cL e,b];exact i
  ·have O:¬q.1=k:=λz=>e (o.trans z);have b:atKey (q::I) k=atKey I k:=by simp[atKey,NJ,O]
   rw[cr e,b];exact D
variable{y:V}
def KT.repl(r:KT H f j)(k:List di)(L:Qd y u):
  KT H (f.map λO=>if O.1=k then(O.1,y)else O) (j.map<|putAt k u):=by
 induction r with
 |nil=>exact .nil
 |@cons p q d Y h t D=>
  rw[Mz,Mz];refine .cons ?_ D;obtain⟨o,i,I⟩:=h;unfold putAt;by_cases e:p.1=k
  ·rw[g_ e,g_<|o.symm.trans e];exact⟨o,i,L⟩
  ·rw[f_ e,f_ λz=>e<|o.trans z];exact⟨o,i,I⟩
def KT.put(r:KT H f j)(k:List di){b:Vr}(O:H b=some (.tup<|k.map kV))(z:Qd y u):
  KT H (bh f k y) (storedH j k b u):=by
 have e:(f.any λI=>decide (I.1=k))=(atKey j k).isSome:=by
  rw[ii,(r.val k).isSome_eq,Tr]
 unfold bh storedH;rw[e];by_cases q:(atKey j k).isSome=true
 ·rw[g_ q,g_ q];exact r.repl k z
 ·rw[f_ q,f_ q];exact Paired.snoc r ⟨U,O,z⟩
def KT.keeps{H q:Hp}(r:KT H f j)(O:∀b e,H b=some (.tup e)->q b=some (.tup e)):KT q f j:=
 Paired.mapP r λ_ _ z=>⟨z.1,O _ _ z.2.1,z.2.2⟩
section
variable{P:Vt}{w:Vu}{H:Hp}{h:Heap}{a:Vr}
def E7{u:HO}(ok:Qt P w H h)(e:Rd H a u):Qe P w H h a u:=e.ok ok
def sK{f:List (di×V)}(ok:Qt P w H h)(e:Rd H a (.dK f)):f.length<=sizeLine/\(a==sysModules)=false/\∃vs,KV f vs/\h.DictOf (cG P w) a vs:=
 show Qe P w H h a (.dK f)from E7 ok e
def zU{f:List (di×V)}(ok:Qt P w H h)(e:H a=some (.dK f)):f.length<=sizeLine/\(a==sysModules)=false/\∃vs,KV f vs/\h.DictOf (cG P w) a vs:=sK ok (.inl e)
def mZ{q:List di}(ok:Qt P w H h)(e:H a=some (.tup<|q.map kV)):(tupleKind<|cG P w).is h q a:=by
 obtain⟨_,z,r,o,t,i,n,O⟩:=(show Qe P w H h a (.tup<|q.map kV)from ok a _ e);exact⟨o,z.toArray,n,t,(Ta i).1,O,by simpa using ph r⟩
def sM(ok:Qt P w H h)(e:Rd H a (.dT f)):f.length<=sizeLine/\(a==sysModules)=false /\
  ∃j,KT H f j/\h.DictOfH (tupleKind<|cG P w) a j:=by
 obtain⟨z,y,j,r,o,D,ep,i,d,L,Y,G⟩:=(show Qe P w H h a (.dT f)from E7 ok e);refine⟨z,y,j,r,o,D,ep,i,d,L,Y,λx O=>?_,G⟩;have all:∀{l:List (List di×V)}{m:List (List di×Vr×Vq)},KT H l m->∀x∈m,(tupleKind<|cG P w).is h x.1 x.2.1:=by
  intro l m q;induction q with
  |nil=>intro x O;exact nomatch O
  |@cons p q v Z I t J=>
   intro x O;rcases Mo.mp O with e|O
   ·subst e;exact mZ ok (by rw[<-I.1];exact I.2.1)
   ·exact J x O
 exact all r x O
def Iz(ok:Qt P w H h)(e:H a=some (.dT f)):f.length<=sizeLine/\(a==sysModules)=false /\
  ∃j,KT H f j/\h.DictOfH (tupleKind<|cG P w) a j:=sM ok (.inl e)
end
def QE(H:Hp)(a:Vr)(y:V)(r:Option V):Prop:=
 (∃f k,Rd H a (.dK f)/\y=kV k/\r=bA f k)\/∃f k b,Rd H a (.dT f)/\y=.ref b/\H b=some (.tup<|k.map kV)/\r=bA f k
def QY(H:Hp)(a:Vr)(y v:V)(q:Hp):Prop:=
 (∃f k,H a=some (.dK f)/\y=kV k/\f.length<sizeLine/\q=aB H a (.dK<|bh f k v)) ∨
 ∃f k b,H a=some (.dT f)/\y=.ref b/\H b=some (.tup<|k.map kV)/\f.length<sizeLine/\q=aB H a (.dT<|bh f k v)
variable{a:Vr}
def QE.k{f:List (di×V)}{k:di}(e:H a=some (.dK f)):QE H a (kV k) (bA f k):=.inl ⟨f,k,.inl e,U,U⟩
def QY.k{f:List (di×V)}{k:di}{v:V}(e:H a=some (.dK f))(q:f.length<sizeLine):QY H a (kV k) v (aB H a<|.dK<|bh f k v):=.inl ⟨f,k,e,U,q,U⟩
section
variable{X:Cx}{t:List (Vr×Obj)}{i:St}{H:Hp}{s:Vs}{a:Vr}{y v:V}{u r:Vq}{o:Option V}{A:Vv}{E:Vq->Vs->Prop}
def P6.big(I:P6 X t i H s):sysModules<s.heap.objs.size:=by
 have h:mainGlobals<s.heap.objs.size:=(I.mod.glob.keeps I.bk).lt;exact Nat.lt_trans zd h
variable{Q:Vq->Vs->Prop}
def yq(R:A.units+1<cLine)(I:P6 X t i H s)(g:QE H a y (some v))(J:Qd y u)(h:∀q d,P6 X t i H d->Qd v q->Q q d):
  wpAny (model X.prog X.w) A (getItem (.ref a) u) Q E s:=by
 rcases g with⟨f,k,e,Y,l⟩|⟨f,k,b,e,Y,eb,l⟩
 ·subst Y;obtain⟨z,m,vs,O,L⟩:=sK I.hok e;obtain⟨q,G,D⟩:=QB.some_of (v:=v) (o:=valueAt vs k) (by rw[l];exact O.val k);exact wpAny_getItem_of (pc J) L.mapOf G (h q _ (I.tok _) D)
 ·subst Y;cases(show u=Value.ref b from J);obtain⟨z,m,j,O,L⟩:=sM I.hok e;obtain⟨q,G,D⟩:=QB.some_of (v:=v) (o:=(atKey j k).map (·.2)) (by rw[l];exact O.val k);obtain⟨p,N,Z⟩:=Option.map_eq_some_iff.mp G;refine wpAny_getItem_heap (SY R) (mZ I.hok eb) L N ?_;rw[Z];exact h q _ (I.tok _) D
def KE(J:A.units+1<cLine)(I:P6 X t i H s)(g:QE H a y o)(Y:Qd y u)(h:∀m,P6 X t i H m->Q (.bool o.isSome) m):
  wpAny (model X.prog X.w) A (compareOp .In u<|.ref a) Q E s:=by
 rcases g with⟨f,k,e,L,l⟩|⟨f,k,b,e,L,G,l⟩
 ·subst L;obtain⟨z,d,vs,O,D⟩:=sK I.hok e;refine wpAny_in_of (pc Y) d D.mapOf ?_;rw[<-(O.val k).isSome_eq,<-l];exact h _ (I.tok _)
 ·subst L;cases(show u=Value.ref b from Y);obtain⟨z,d,j,O,D⟩:=sM I.hok e;refine wpAny_in_heap (SY J) (mZ I.hok G) d D ?_;have q:=(O.val k).isSome_eq;rw[Tr]at q;rw[<-q,<-l];exact h _ (I.tok _)
def C6(J:A.units+1<cLine)(I:P6 X t i H s)(g:QE H a y o)(Y:Qd y u)(h:∀m,P6 X t i H m->Q (.bool<|!o.isSome) m):
  wpAny (model X.prog X.w) A (compareOp .NotIn u<|.ref a) Q E s:=by
 rcases g with⟨f,k,e,L,l⟩|⟨f,k,b,e,L,G,l⟩
 ·subst L;obtain⟨z,d,vs,O,D⟩:=sK I.hok e;refine wpAny_notIn_of (pc Y) d D.mapOf ?_;rw[<-(O.val k).isSome_eq,<-l];exact h _ (I.tok _)
 ·subst L;cases(show u=Value.ref b from Y);obtain⟨z,d,j,O,D⟩:=sM I.hok e;refine wpAny_notIn_heap (SY J) (mZ I.hok G) d D ?_;have q:=(O.val k).isSome_eq;rw[Tr]at q;rw[<-q,<-l];exact h _ (I.tok _)
def qf{d:Heap}{m:Nat}{O:HO}(I:P6 X t i H s)(G:HU (H a))(Y:Heap.SameBut a s.heap d)(L:∃q,d.get? a=some q)(new:Qe X.prog X.w (aB H a O) d a O):
  P6 X t i (aB H a O) {s with heap:=d,toks:=m}:=
 I.write (x:=a) (e:=a) G (.inl U) (λb q D z=>(Y.2 b D).trans z) L new
def uT{q:Hp}{e:Heap}{f:List (di×V)}{vs:List (di×Vq)}(z:f.length<=sizeLine)(d:(a==sysModules)=false)(O:KV f vs)(I:e.DictOf (cG P w) a vs):
  Qe P w q e a (.dK f):=⟨z,d,vs,O,I⟩
def yr{N:Hp}{Q:Unit->Vs->Prop}(hu:A.units+1<cLine)(I:P6 X t i H s)(g:QY H a y v N)(ry:Qd y u)(rv:Qd v r)(h:∀C,P6 X t i N C->Q () C):
  wpAny (model X.prog X.w) A (setItem (.ref a) u r) Q E s:=by
 rcases g with⟨f,k,e,J,l,G⟩|⟨f,k,b,e,J,eb,l,G⟩
 ·subst J G;obtain⟨z,d,vs,O,Y⟩:=zU I.hok e;have p:vs.length<=sizeLine:=by rw[<-O.length];exact z
  have Z:(bh f k v).length<=sizeLine:=by have:=ij f k v;lia
  refine wpAny_setItem_pairs (hsz:=p) (pc ry) Y λR D m=>h _ ?_;have he:∃q,R.get? a=some q:=let⟨q,_,_,L,_⟩:=D;⟨q,L⟩;exact qf I (by rw[e];exact True.intro) m he (uT Z d (O.put k rv) D)
 ·subst J G;cases(show u=Value.ref b from ry);obtain⟨z,d,j,O,Y⟩:=Iz I.hok e;have p:j.length<=sizeLine:=by rw[<-Paired.length O];exact z
  have Z:(bh f k v).length<=sizeLine:=by have:=ij f k v;lia
  refine wpAny_setItem_heap (hsz:=p) (SY hu) (mZ I.hok eb) Y λR D m=>h _ ?_;obtain⟨q,M,ep,L,B,h3,h4,_,h5⟩:=D;refine qf I (by rw[e];exact True.intro) m ⟨q,L⟩ ⟨Z,d,_,(O.put k eb rv).keeps λc ys ec=>?_,q,M,ep,L,B,h3,h4,h5⟩;rw[al<|gP ec e λz=>nomatch z];exact ec
end
def ID(i:Expr):Prop:=∀z q,subscripted i false z q=operate [z,q] (getItem z q)
def C7{e:Vt}{w:Vu}{A:Vv}{E:Vq->Vs->Prop}{s:Vs}{t:Env}{value Y:Expr}{d:Pos}{T id:String}{Q:Vq->Vs->Prop}
  (J:typeLookup (.type T) "__getitem__"=pure (some<|.builtin id)) (Z:ID Y)
  (h:wpAny (model e w) A (eval value t) (λo O=>wpAny (model e w) A (eval Y t) (λi q=>q.TypeIs o T/\wpAny (model e w) A (getItem o i) Q E q) E O) E s) :
  wpAny (model e w) A (eval (.Subscript value Y d) t) Q E s:=by
 refine Subscript_ (j_ h (λo O D=>j_ D (λi q z=>?_) λ_ _ x=>x) λ_ _ x=>x);obtain⟨G,z⟩:=z;unfold subscriptTail;refine a_ ?_;rw[getitemInPython_of_ne G.not_modules];refine a_ (wpAny_specialOf G J ?_);have B':wpAny (model e w) A (subscripted Y false o i) (λr I=>wpAny (model e w) A (letTemporaryGo value o r>>=λ_=>pure r) Q E I) E q:=by
  rw[Z o i];exact wpAny_operating (j_ z (λr I L=>a_<|wpAny_letTemporaryGo<|d_ L) λ_ _ x=>x)
 first
  |exact d_ (a_ B')
  |exact a_ (d_<|a_ B')
  |exact a_ B'
variable{X:Cx}
def sN{t:List (Vr×Obj)}{i:St}{s:Vs}{o:Option V}(I:P6 X t i H s)(g:QE H a y o):s.TypeIs (.ref a) "dict":=by
 rcases g with⟨f,k,e,_,_⟩|⟨f,k,b,e,_,_,_⟩
 ·obtain⟨_,_,vs,_,q⟩:=sK I.hok e;exact q.typeIs
 ·obtain⟨_,_,j,_,q⟩:=sM I.hok e;exact q.typeIs
inductive zV(Q:VK)(x:V)(y:V)(e:Hp):Prop
 |mk(a v:_):x=.ref a->QE e a y (some v)->Q v e->zV Q x y e
def IE(t ty:TE):TE:=λe H Q=>t e H λx q=>ty e q λy z=>zV Q x y z
inductive E8(Q:VK)(y:V)(x:V)(e:Hp):Prop
 |mk(a o:_):x=.ref a->QE e a y o->Q (.bl o.isSome) e->E8 Q y x e
def KG(ty t:TE):TE:=λe H Q=>ty e H λy q=>t e q λx z=>E8 Q y x z
inductive sO(Q:VK)(y:V)(x:V)(e:Hp):Prop
 |mk(a o:_):x=.ref a->QE e a y o->Q (.bl<|!o.isSome) e->sO Q y x e
def C8(ty t:TE):TE:=λe H Q=>ty e H λy q=>t e q λx z=>sO Q y x z
inductive zW(D:Qr)(t:St)(v:V)(x:V)(y:V)(e:Hp):Prop
 |mk(a H4:_):x=.ref a->QY e a y v H4->D.nx t H4->zW D t v x y e
def IF(t ty I:TE):TS:=λD e H=>I e H λv q=>t e q λx z=>ty e z λy O=>zW D e v x y O
section
variable{X:Cx}{o i e value:Expr}{d VI tpos:Pos}{t ty tv:TE}
def bv(N:X.A.units+1<cLine)(Z:PE X o t)(J:PE X i ty)(p:ID i:=by intro _ _;rfl):PE X (.Subscript o i d) (IE t ty):=by
 refine⟨?_⟩;intro r s m H Q I h;refine C7 PySem.F.slot_dict_getitem.lookup p (bL (Z r s m H _ I h) λu M⟨x,O,L,rx,R⟩=>bL (J r M m O _ L R) λiv B q=>?_);obtain⟨y,D,z,ry,a,v,ex,g,C⟩:=q;subst ex;obtain rfl:u=Value.ref a:=rx;exact⟨sN z g,yq N z g ry λw' s3 Y G=>⟨v,D,Y,G,C⟩⟩
def zX(Z:X.A.units+1<cLine)(G:PE X i ty)(J:PE X o t):PC X .In i o (KG ty t):=by
 intro r s m H Q I h;refine bL (G r s m H _ I h) λiv N⟨y,z,D,ry,p⟩=>bL (J r N m z _ D p) λu R q=>?_;obtain⟨x,O,L,rx,a,ov,ex,g,v⟩:=q;subst ex;obtain rfl:u=Value.ref a:=rx;exact KE Z L g ry λC Y=>⟨.bl ov.isSome,O,Y,U,v⟩
def yt(Z:X.A.units+1<cLine)(G:PE X i ty)(J:PE X o t):PC X .NotIn i o (C8 ty t):=by
 intro r s m H Q I h;refine bL (G r s m H _ I h) λiv N⟨y,z,D,ry,p⟩=>bL (J r N m z _ D p) λu R q=>?_;obtain⟨x,O,L,rx,a,ov,ex,g,v⟩:=q;subst ex;obtain rfl:u=Value.ref a:=rx;exact C6 Z L g ry λC Y=>⟨.bl<|!ov.isSome,O,Y,U,v⟩
def fS(M:X.A.units+1<cLine)(R:PE X o t)(N:PE X i ty)(B:PE X value tv)(C:swapsWith value (some<|.Subscript o i VI) d.line X.env=pure false):
  PS X (.Assign [.Subscript o i VI] value d) (IF t ty tv):=by
 refine⟨?_⟩;intro m s p H D I h;refine wpAny_Assign_Subscript (bL (B m s p H _ I h) λr s1⟨v,z,Y,rv,q1⟩=>bL (R m s1 p z _ Y q1) λu s2⟨x,O,G,rx,q2⟩=>bL (N m s2 p O _ G q2) λiv s3 q=>?_) C;obtain⟨y,H3,J,ry,a,L,ex,g,q3⟩:=q;subst ex;obtain rfl:u=Value.ref a:=rx;exact yr M J g ry rv λs4 Z=>⟨p,L,Z,q3⟩
end
def sP(h:Heap)(q:sysModules<h.objs.size):Qe P w H (h.push {cls:=.type "dict",data:=.dict #[]}) h.objs.size (.dK []):=
 ⟨MR _,beq_eq_false_iff_ne.mpr<|F_<|ME q,[],.nil,Heap.DictOf.new h⟩
def F8:TE:=λ_ H Q=>∀p,H p=none->Q (.ref p) (aB H p<|.dK [])
section
variable{X:Cx}{e:Pos}
def m5:PE X (.Dict [] [] e) F8:=⟨λt s i H Q I h=>
 wpAny_Dict_empty ⟨.ref s.heap.objs.size,_,I.laid (a:=s.heap.objs.size) (o:=.dK []) (t':=s.toks) (λ_ _ q=>Mh _ q) (Ml _)<|sP s.heap I.big,U,h _<|I.hok.fresh<|Ml _⟩⟩
end
def uU:List (TE×TE)->St->Hp->(List (V×V)->Hp->Prop)->Prop
 |[],_,H,Q=>Q [] H
 |(tk,tv)::r,e,H,Q=>tk e H λx q=>tv e q λy z=>uU r e z λt O=>Q ((x,y)::t) O
abbrev VV:List (V×V)->List (Vq×Vq)->Prop:=Paired λp q=>Qd p.1 q.1/\Qd p.2 q.2
def Ka(X:Cx)(t:Pos)(z:List (Option Expr))(O:List Expr)(I:List (TE×TE)):Prop:=
 ∀(e:List (Vr×Obj))(s:Vs)(o:St)(H:Hp)(Q:List (V×V)->Hp->Prop),P6 X e o H s->uU I o H Q->
  wpAny (model X.prog X.w) X.A (evalPairs<|pairTrees z O X.env t) (λvs r=>∃i q,P6 X e o q r/\VV i vs/\Q i q) X.xe s
def C9{e:Pos}:Ka X e [] [] []:=λt s o H Q I h=>pairTrees_nil_walk ⟨[],H,I,.nil,h⟩
variable{Za:List (TE×TE)}
def sQ{t:Pos}{k v:Expr}{q:List (Option Expr)}{vs:List Expr}{z O:TE}(i:PE X k z)(r:PE X v O)(hr:Ka X t q vs Za):
  Ka X t (some k::q) (v::vs) ((z,O)::Za):=λe s o H Q I h=>
 pairTrees_cons_walk (bL (i e s o H _ I h) λu N⟨x,D,G,rx,m⟩=>bL (r e N o D _ G m) λw2 R⟨y,L,J,ry,p⟩=>
  bL (hr e R o L _ J p) λws C⟨d,Y,Z,VT,q3⟩=>⟨(x,y)::d,Y,Z,.cons ⟨rx,ry⟩ VT,q3⟩)
def fY(f more:List (di×V)):List (di×V):=more.foldl (λz q=>bh z q.1 q.2) f
def KV.merge:∀{more:List (di×V)}{z:List (di×Vq)}{f:List (di×V)}{vs:List (di×Vq)},KV more z->KV f vs->KV (fY f more) (merged vs z):=by
 intro more z f vs r;unfold KV at r;induction r generalizing f vs with
 |nil=>intro q;exact q
 |@cons p q o D h t O=>
  intro I;have e:KV (bh f p.1 p.2) (stored vs q.1 q.2):=by
   have:=I.put p.1 h.2;rw[<-h.1];exact this
  exact O e
def fZ:∀(more f:List (di×V)),(fY f more).length<=f.length+more.length
 |[],f=>by show f.length<=f.length+0;lia
 |p::r,f=>by
  have e:=fZ r (bh f p.1 p.2);have t:=ij f p.1 p.2;show(fY (bh f p.1 p.2) r).length<=_;rw[Mg];lia
def m6{P:Vt}{w:Vu}:∀{f:List (di×V)}{I:List (Vq×Vq)},VV (f.map λO=>(kV O.1,O.2)) I->∃z,Carries (cG P w) I z/\KV f z
 |[],_,r=>by rw[Ny]at r;cases r;exact⟨[],True.intro,.nil⟩
 |p::f,_,r=>by
  rw[Mz]at r;cases r with
  |@cons a b as bs h t=>
   obtain⟨z,c,q⟩:=m6 (P:=P) (w:=w) t;obtain⟨L,D⟩:=b;exact⟨(p.1,D)::z,⟨pc h.1,U,c⟩,.cons ⟨U,h.2⟩ q⟩
def IG(Za:List (TE×TE)):TE:=λt H Q=>∀p,H p=none->uU Za t (aB H p<|.dK []) λe q=>q p=some (.dK [])/\∃f:List (di×V),e=f.map (λz=>(kV z.1,z.2))/\f.length<=15/\Q (.ref p) (aB q p<|.dK<|fY [] f)
def Da{i:Pos}{O:List (Option Expr)}{D:List Expr}(h:Ka X i O D Za)(Yq:O.all (·.isSome)=true)(p:O.length=D.length)(h0:O≠[])
  (L:O.length<=15):PE X (.Dict O D i) (IG Za):=by
 refine⟨?_⟩;intro t s B H Q I q;have v:=I.hok.fresh (Ml s.heap.objs.size);have Z:=I.laid (a:=s.heap.objs.size) (o:=.dK []) (h':=s.heap.push {cls:=.type "dict",data:=.dict #[]}) (t':=s.toks) (λ_ _ q=>Mh _ q) (Ml _) (sP s.heap I.big);refine wpAny_Dict_walk (knd:=cG X.prog X.w) Yq p h0 L (bL (h t _ B _ _ Z<|q _ v) λws s2 Y=>?_);obtain⟨ps,H2,G,VT,e,f,ep,lk,M⟩:=Y;subst ep;obtain⟨rs,c,rk⟩:=m6 (P:=X.prog) (w:=X.w) VT;obtain⟨z,d,ee,r0,dd⟩:=zU G.hok e;cases r0;refine⟨rs,c,dd,λh' J R=>⟨.ref s.heap.objs.size,_,?_,U,M⟩⟩;have C:(fY [] f).length<=sizeLine:=by
  have r:=fZ f [];rw[Mv]at r;rw[SC];lia
 have m:∃q,h'.get? s.heap.objs.size=some q:=let⟨q,_,_,N,_⟩:=J;⟨q,N⟩;exact qf G (by rw[e];exact True.intro) R m (uT C d (rk.merge .nil) J)
end
def KH(P:St->Hp->Prop)(t u:TS):TS:=λD e H=>(∀q z,P q z->u D q z)/\t {D with nx:=P} e H
section
variable{t u:TS}
def bH{X:Cx}{st:Stmt}{O:List Stmt}(P:St->Hp->Prop)(o:PS X st t)(i:Rb X O u):Rb X (st::O) (KH P t u):=by
 refine⟨?_⟩;intro e s r H D I h;refine wpAny_execs_cons (bL (o e s r H {D with nx:=P} I h.2) λf G q=>?_);cases f with
 |next=>
  obtain⟨z,L,Y,q⟩:=q;exact i e G z L D Y (h.1 _ _ q)
 |ret v=>exact q
 |brk=>exact q
 |cont=>exact q
variable{D:Qr}
def put(h:∀q:Qr,(∀e H,u D e H->q.nx e H)->t q e H):uG t u D e H:=h {D with nx:=u D} λ_ _ h=>h
def yu(h:∀q:Qr,(∀e H,D.nx e H->q.nx e H)->t q e H):t D e H:=h D λ_ _ h=>h
def IH(h:∀q:Qr,(∀e H,u D e H->q.nx e H)->(∀v H,D.rt v H->q.rt v H)->t q e H):uG t u D e H:=h {D with nx:=u D} (λ_ _ h=>h) λ_ _ h=>h
def putL(h:∀q:Qr,(∀e H,D.nx e H->q.nx e H)->t q (e.set i (some v)) H):mO i v e H (λa b=>t D a b):=h D λ_ _ h=>h
end
def II(O z:St->Hp->Prop)(t:TT):TT:=λe H Q=>(∀q,O e q->Q true q)/\(∀q,z e q->Q false q)/\t e H λb q=>if b=true then O e q else z e q
def c6(Y L:St->Hp->Prop)(h:PT X e t):PT X e (II Y L t):=by
 refine⟨?_⟩;intro o s i H Q I O;refine bL (h o s i H _ I O.2.2) λb G⟨z,D,q⟩=>⟨z,D,?_⟩;cases b with
 |true=>exact O.1 z (by simpa using q)
 |false=>exact O.2.1 z (by simpa using q)
section
variable{H:Hp}
def uV{K:ZF}{a:Vr}{xs:VA}{g:TG}{L:TT}{r:TE}{ix:List (Option Nat)}{o:St}{Q:VK}(Pv:Nat->VA->Hp->Prop)(Z:Pv 0 [] H)
  (v:∀i t H,i<=xs.length->Pv i t H->P5 K H a xs/\t.length<=sizeLine)
  (j:∀i x t H,xs[i]?=some x->Pv i t H->g x (kr ix o) H λz Y=>QM (kr ix o) z/\L z Y λb O=>if b=true then r z O λy G=>Nx Pv xs.length i (t++[y]) G else Nx Pv xs.length i t O)
  (d:∀t H,Pv xs.length t H->∀D,H D=none->Q (.ref D) (aB H D<|.lst t)) :
  ym (FU K a) g L r ix o H Q:=by
 refine⟨λi m t H=>m=xs.length-i/\i<=xs.length/\Pv i t H,⟨xs.length,by simp,MR _,Z⟩,?_⟩;rintro i m t H ⟨rfl,f,p⟩;obtain⟨q,I⟩:=v i t H f p;by_cases J:i<xs.length
 ·refine .inr ⟨⟨xs,xs[i],q,by simp[J]⟩,I,λx N y=>?_⟩;obtain⟨e,y⟩:=y;subst e;exact j i x t _ (y xs q) p
 ·have e:i=xs.length:=by lia
  subst e;exact .inl ⟨⟨xs,q,Ml _⟩,I,d t H p⟩
def Qi(H q:Hp):Prop:=∀a e,H a=some (.tup e)->q a=some (.tup e)
def Qi.trans(a:Qi H t)(b:Qi t o):Qi H o:=λc x e=>b c x (a c x e)
def ak(s:P4 H t):Qi H t:=λa o e=>s _ _ e
def F9(h:H p=some (.lst t)):Qi H (aB H p<|.lst o):=λa i e=>by
 have:a≠p:=by
  rintro rfl;rw[h]at e;cases e
 rw[al this];exact e
def Db(x:Str):Bool:=(PyData.str x).canLay0
mutual
inductive Td(H:Hp):V->PyData->Prop
 |int (i:Int):Td H (.int i) (.int i)
 |str (x:Str) (h:Db x=true):Td H (.str x) (.str x)
 |tup {a:Vr} {t:VA} {e:List PyData}:H a=some (.tup t)->Qw H t e->Td H (.ref a) (.tuple e)
inductive Qw(H:Hp):VA->List PyData->Prop
 |nil:Qw H [] []
 |cons {v:V} {d:PyData} {vs:VA} {e:List PyData}:Td H v d->Qw H vs e->Qw H (v::vs) (d::e)
end
mutual
variable{K:ZF}
def Td.dt:∀{v:V}{d:PyData},Td H v d->Dt K H v d
 |_,_,.int i=>.int i
 |_,_,.str x _=>.str x
 |_,_,.tup e t=>.tup (P5.of e) (Qw.dt t)
def Qw.dt:∀{vs:VA}{e:List PyData},Qw H vs e->Qx K H vs e
 |_,_,.nil=>.nil
 |_,_,.cons h t=>.cons (Td.dt h) (Qw.dt t)
end
mutual
def Td.lay:∀{v:V}{d:PyData},Td H v d->d.canLay0=true
 |_,_,.int i=>rfl
 |_,_,.str x h=>h
 |_,_,.tup e t=>Qw.lay t
def Qw.lay:∀{vs:VA}{e:List PyData},Qw H vs e->PyData.canLayAll0 e=true
 |_,_,.nil=>rfl
 |_,_,.cons h t=>by
  simp only[PyData.canLayAll0,Td.lay h,Qw.lay t,Tl]
end
end
section
inductive wV(X:Cx)(m:Str)(t:TA)(d:St)(Q:VK)(x:V)(e:Hp):Prop
 |mk(a v C f:Vr)(i:List (Str×V))(o:Vw)(k:Nat)(r:Vx)(sp:Sp):x=.ref a->e a=some (.ins C v i)->i.lookup m=none->R0 X.K C->yi X.K C m f->P7 X.prog X.w X.K X.mg X.base ce k f o r sp->P9 k X.A->Qk X.K o r []->(t d e λvs p=>sp (.ref a::vs) p Q E0)->wV X m t d Q x e
def Ga(X:Cx)(m:Str)(z:TE)(t:TA):TE:=λe H Q=>z e H λx q=>wV X m t e Q x q
def br(R:PE X o ta)(j:PA X (e::p) t)
  (Z:starEach (e::p) X.env=(false,eval e X.env)::starEach p X.env:=by rfl) (J:(backTo i<|starEach p X.env).any (·.1)=false:=by rfl)
  (M:eval (.Call (.Attribute o m G') (e::p) [] i) X.env=(do
   let Y <-eval o X.env
   standAt G'.atName
   let(f,first) <-holding [Y] (getMethod Y m pl)
   callWith i f first (backTo i<|starEach (e::p) X.env) (backToKw i<|keywordEach [] X.env)):=by rfl) :
  PE X (.Call (.Attribute o m G') (e::p) [] i) (Ga X m ta t):=by
 refine⟨?_⟩;intro d s v H Q I h;refine A_ (pl:=pl) (bL (R d s v H _ I h) λu s1 z=>?_) M;obtain⟨x,G,O,rx,a,dx,C,f,fs,fd,k,ps,sp,ex,ea,l,c,L,F,hr,N,q⟩:=z;subst ex;obtain rfl:u=Value.ref a:=rx;refine i7 O ea c L l ?_;refine Np (first:=[.ref a]) (h₀:=X.base) I.ok.mod.kin L.kp (bL (j i d s1 v G _ O q) λus s2⟨vs,H2,D,r,B⟩=>⟨D.kIn,?_⟩) Z J;exact mV (us:=.ref a::us) (vs:=.ref a::vs) (dvs:=[]) (ds:=[]) F hr N .nil lL D (.cons U r) (by rw[MM];exact B)
inductive sR(X:Cx)(m:Str)(Q:VK)(x:V)(e:Hp):Prop
 |mk(a r C f:Vr)(o:List (Str×V))(t:Vw)(k:Nat)(i:Vx)(sp:Sp):x=.ref a->e a=some (.ins C r o)->o.lookup m=none->R0 X.K C->yi X.K C m f->P7 X.prog X.w X.K X.mg X.base ce k f t i sp->P9 k X.A->Qk X.K t i []->sp [.ref a] e Q E0->sR X m Q x e
def Dc(X:Cx)(m:Str)(z:TE):TE:=λe H Q=>z e H λx q=>sR X m Q x q
def aX(J:PE X o i)
  (Z:eval (.Call (.Attribute o m G') [] [] e) X.env=(do
   let L <-eval o X.env
   standAt G'.atName
   let(f,first) <-holding [L] (getMethod L m pl)
   callWith e f first (backTo e<|starEach [] X.env) (backToKw e<|keywordEach [] X.env)):=by rfl) :
  PE X (.Call (.Attribute o m G') [] [] e) (Dc X m i):=by
 refine⟨?_⟩;intro t s r H Q I h;refine A_ (pl:=pl) (bL (J t s r H _ I h) λu R O=>?_) Z;obtain⟨x,d,z,rx,a,p,C,f,j,v,k,N,sp,ex,Y,l,c,D,F,hr,G,q⟩:=O;subst ex;obtain rfl:u=Value.ref a:=rx;refine i7 z Y c D l ?_;exact PySem.W.callWith_K0 (first:=[.ref a]) z.kIn D.kp (mV (us:=[.ref a]) (vs:=[.ref a]) (dvs:=[]) (ds:=[]) F hr G .nil lL z (.cons U .nil) q)
end
def KM(K:ZF)(l:Vr):It:=
 ⟨λi H=>∃e x,P8 K H l e/\e[i]?=some x,
  λi H v q=>∃T x,v=.ref T/\H T=none/\q=aB H T (.tup [.int i,x])/\∀e,P8 K H l e->e[i]?=some x,
  λi H=>∃e,P8 K H l e/\e.length<=i⟩
def yw{P:Vt}{w:Vu}{K:ZF}{We:List Expr}{kt:Nat}{tp:Pos}{e d l:Vr}(Oe:e≠d):
  oJ P w K (.Tuple We kt tp) (KM K l) [e,d] e (λi h=>(∃old,IsEnum h e d i old)/\h.IsListIter d l i) where
 mem:=by simp
 obj:=λi h st b O=>by
  obtain⟨⟨old,D⟩,⟨o1,t,_,d1⟩⟩:=st;simp at O;rcases O with rfl|rfl
  ·exact⟨_,D,λv q=>by cases q⟩
  ·exact⟨_,t,λv q=>by rw[d1]at q;cases q⟩
 keep:=λi h h' st k=>by
  obtain⟨⟨old,D⟩,t⟩:=st;exact⟨⟨old,k e (by simp) _ D⟩,t.at λo q=>k d (by simp) o q⟩
 item:=by
  intro X hP hw hK L i r s j H E I Y st f;subst hP hw hK;obtain⟨xs,x,G,ex⟩:=f;obtain⟨⟨old,D⟩,t⟩:=st;obtain⟨VJ,J,p,z1⟩:=I.list G;obtain⟨u1,ee,et⟩:=J.get ex;refine wpAny_pyNext_enum_item D t p.isList (x:=u1) (by simpa using ee) Oe λh' N R C a4 a5=>⟨_,U,?_⟩;refine wpAny_letOwnedTupleGo_enum N λWQ M m=>?_;have hT:H s.heap.objs.size=none:=I.hok.fresh (Ml _);have Z:∀b o,s.heap.get? b=some o->b≠s.heap.objs.size:=λb o q=>ME (Mm q);refine⟨.ref s.heap.objs.size,aB H s.heap.objs.size<|.tup [.int i,x],?_,U,⟨s.heap.objs.size,x,U,hT,U,λea h=>by rw[I.list_inj h G];exact ex⟩,?_,λb O=>?_⟩
  ·show P6 X r j (aB H s.heap.objs.size<|.tup [.int i,x]) {s with heap:=WQ,toks:=s.toks+1};refine P6.turnedS (s:=s) (h':=WQ) (t':=s.toks+1) (ch:=[e,d]) I (λb O=>Y b O) (λb o L q=>?_) (λb o q=>by rw[al<|au q hT];exact q) (λb O n=>by rw[al<|ME O];exact n) λb o n q=>?_
   ·simp at L;exact m.extBut b o L.1 (a5 b o L.1 L.2 q)
   ·by_cases eb:b=s.heap.objs.size
    ·subst eb;rw[aa]at q;cases q;refine⟨Qa,[.int i s.toks,u1],.cons ⟨_,U⟩<|.cons et .nil,_,m.extBut _ _ ?_ C,U,_,U⟩;exact λz=>Z e _ D z.symm
    ·rw[al eb,n]at q;cases q
  ·refine⟨⟨_,M⟩,R.at λo q=>m.extBut _ o Oe.symm q⟩
  ·have n:=(Y b O).1;have:b≠s.heap.objs.size:=by
    simp at O;obtain⟨_,B,_⟩:=id t;rcases O with rfl|rfl
    ·exact Z _ _ D
    ·exact Z _ _ B
   rw[al this];exact n
 done:=by
  intro X hP hw hK L i r s j H E I Y st f;subst hP hw hK;obtain⟨xs,G,hl⟩:=f;obtain⟨⟨old,D⟩,t⟩:=st;obtain⟨VJ,J,p,z1⟩:=I.list G;have e1:=J.length;refine wpAny_pyNext_enum_end (I.ok.hd L) D t p.isList (by simp;lia) λh' k=>⟨U,?_⟩;obtain⟨f0,f1,f2,f3,f4,f5⟩:=Y d (by simp);exact I.turned (t':=s.toks) (λb o O q=>k b o O q) f0 f1 f3 f4 f5
 self:=λ_ _ _ _ _ st h=>S4 st.1.choose_spec h
section
inductive zY(K:ZF)(R:It->Hp->Prop)(vs:VA)(e:Hp):Prop
 |mk(l:_):vs=[.ref l]->(∃t,P8 K e l t)->R (KM K l) e->zY K R vs e
def IJ(K:ZF)(z:TA):TI:=λe H R=>z e H λvs q=>zY K R vs q
def pi:bootBuiltins "enumerate"=some (.type "enumerate"):=by decide +kernel
def jI{We:List Expr}{kt:Nat}{tp:Pos}{a:Expr}{J:TA}{p o:Pos}(m:Gl X "enumerate")(f:X.mg "enumerate"=none)(d:PA X [a] J)(v:starEach [a] X.env=[(false,eval a X.env)]:=by rfl):
  PI X (.Tuple We kt tp) (.Call (.Name "enumerate" p) [a] [] o) (IJ X.K J):=by
 refine⟨?_⟩;intro t s B H R I h;refine Call_ (i4 I m f pi<|Nq (bL (d o t s B H _ I h) λus O D=>?_) v U);obtain⟨vs,Z,z,M,C⟩:=D;obtain⟨l,e,⟨xs,j⟩,q⟩:=C;subst e;cases M with
 |cons r rr=>
  cases rr;cases r;obtain⟨VJ,Xm,N,z1⟩:=z.list j;refine call_enumerate_list N.isList λh' Y i a3 a4=>?_;refine S4 Y ?_;refine⟨_,[O.heap.objs.size+1,O.heap.objs.size],_,_,Z,U,z.kept (t':=O.toks) a4,yw<|N5<|NG _,⟨⟨_,Y⟩,i⟩,λb G=>?_,q⟩;have L:O.heap.objs.size<=b:=by
   simp only[Mo,Mu,l_]at G;rcases G with e|e<;>rw[e]
   ·exact C_ _ _
   ·exact Ml _
  exact z.fpOk L (z.hok.fresh L)
end
section
def uW:eD X (.type "dict") (λm H Q=>∃(d:Vr)(t:List (di×V)),m=[.ref d]/\H d=some (.dK t)/\∀a,H a=none->Q (.ref a) (aB H a<|.dK t)):=by
 intro i s j H m v Q I r h;obtain⟨d,t,rfl,p,q⟩:=h;obtain⟨u,rfl,rx⟩:=hZ r;cases rx;obtain⟨D,Z,vs,O,G⟩:=zU I.hok p;refine PySem.kt_call_dict Z G (by rw[<-O.length];exact D) λf L Y=>?_;have J:∀b o,s.heap.get? b=some o->f.get? b=some o:=λb o e=>Y.extBut b o (ME<|Mm e) (Mh _ e);have z:=I.big;have e:s={s with toks:=s.toks}:=by cases s;rfl
 refine⟨.ref s.heap.objs.size,_,I.laid (t':=s.toks) (a:=s.heap.objs.size) (o:=.dK t) J (Ml _) ?_,U,q _<|I.hok.fresh<|Ml _⟩;exact uT D (by
  have:¬s.heap.objs.size=sysModules:=N5 z;simpa using this) O L
end
end L2
namespace PySem
open Sem (wp)
def tupIt(l:Vr):Obj:={cls:=.type "tuple_iterator",data:=.fields #[.ref l,.int 0 0]}
def enumOver(e:Vr):Obj:={cls:=.type "enumerate",data:=.fields #[.none,.bool false,.ref e,rawInt 0,.none,.none]}
def Sg(l:Vr)(O:Array Vq)(n:Nat)(t:Option Vr)(os:Array (Option Vq)):Meets (Builtin.«enumerate.__new__» ⟨[.type "enumerate",.ref l],[]⟩) (λ_ R s=>
  s.heap.get? l=some {cls:=.type "tuple",dict:=t,data:=.seq O n,slots:=os}/\R (.ok<|.ret<|.ref (s.heap.push<|tupIt l).objs.size) {s with heap:=(s.heap.push<|tupIt l).push (enumOver s.heap.objs.size)}):=
 .of_wp λe w A R s q=>by
  rcases s with⟨D,G,Y,J,L⟩;have there:=q.1;have z:=q.2;have under:=sub_enumerate;have I:D.IsTuple l O:=⟨_,there,U,n,U⟩
  wp_walk using I_ there
  refine wpAny_stack_any λ_=>d_ ?_;split
  ·rename_i c _ _ _ _ _;rcases o:(c==Value.type "enumerate")with _|_<;>(wp_walk using I_ there,TM I;exact⟨_,U,z⟩)
  ·(wp_walk using I_ there,TM I;exact⟨_,U,z⟩)
section
def enum_of_tuple(O:s.heap.IsTuple l Oi)
  (h:Q (.ref<|s.heap.objs.size+1) {s with heap:=(s.heap.push<|tupIt l).push (enumOver s.heap.objs.size)}):wpAny (model e w) A (call (.type "enumerate") [.ref l]) Q E s:=by
 obtain⟨o,there,GS,n,q⟩:=O;cases o with
 |mk L t D I=>
  dsimp only at GS q;subst GS q;have sz:(s.heap.push<|tupIt l).objs.size=s.heap.objs.size+1:=ND ..;have z:((s.heap.push<|tupIt l).push<|enumOver s.heap.objs.size).get? (s.heap.objs.size+1)=some (enumOver s.heap.objs.size):=sz▸MB (s.heap.push<|tupIt l) rfl;refine callType_new F.called_enumerate zd (F.typeCall_enumerate_1 _) (F.newCall_enumerate_1 _) (λx=>F.args_object_init_2 x _) F.entry_enumerate_new (Sg l Oi n t I) ⟨there,?_⟩;show _/\_;rw[sz];exact⟨⟨_,z,U⟩,h⟩
end
section
def QX(hit:s.heap.IsTupleIter r t i)(L:s.heap.IsTuple t Oi)(Y:Oi[i]?=some x)
  (I:∀d,d.IsTupleIter r t (i+1)->Heap.SameBut r s.heap d->Q x {s with heap:=d}):wpAny (model m w) A (Builtin.SmallTypes.nextOf<|.ref r) Q E s:=by
 obtain⟨o,q,D,e⟩:=id hit;obtain⟨J,O,_,G,z⟩:=L;unfold Builtin.SmallTypes.nextOf;refine a_ (J_ (name:=Str.ofString "__next__") hit.typeIs D_
  (S_ D_ hit.typeIs F.entry_tuple_iterator_next ?_<|F.args_tuple_iterator_next_1 _))
 show wpAny _ _ (field (.ref r) 0>>=_) _ _ s;refine a_ (n_ q e (x:=.ref t) U ?_);show wpAny _ _ (if(Value.ref t==Value.none)=true then _ else _) _ _ s;rw[f_<|show¬((Value.ref t==Value.none)=true)from MA];show wpAny _ _ (field (.ref r) 1>>=_) _ _ s;refine a_ (n_ q e (x:=.int i 0) U ?_);show wpAny _ _ (seqItems? (.ref t)>>=_) _ _ s;refine a_ (wpAny_seqItems O z ?_);simp only[Nm,Y];refine a_ (SZ q e (by simp)<|d_ ⟨x,U,d_<|I _ ?_<|Heap.SameBut.update ..⟩);exact⟨_,t_ _ q<|Tn<|TQ e _,(Obj.cls_mapFields ..).trans D,by
  rw[TQ e];simp[rawInt]⟩
def nextOf_tuple_end(I:A.handled=none)(hit:s.heap.IsTupleIter r t i)(L:s.heap.IsTuple t Oi)(Y:Oi[i]?=none)
  (D:∀d e,Heap.ExtBut r s.heap d->(∃o,d.get? e=some o/\o.cls=.type "StopIteration")->E (.ref e) {s with heap:=d}):wpAny (model p w) A (Builtin.SmallTypes.nextOf<|.ref r) Q E s:=by
 obtain⟨o,z,G,f⟩:=id hit;obtain⟨Z,O,_,J,q⟩:=L;unfold Builtin.SmallTypes.nextOf;refine a_ (J_ (name:=Str.ofString "__next__") hit.typeIs D_
  (S_ D_ hit.typeIs F.entry_tuple_iterator_next ?_<|F.args_tuple_iterator_next_1 _))
 show wpAny _ _ (field (.ref r) 0>>=_) _ _ s;refine a_ (n_ z f (x:=.ref t) U ?_);show wpAny _ _ (if(Value.ref t==Value.none)=true then _ else _) _ _ s;rw[f_<|show¬((Value.ref t==Value.none)=true)from MA];show wpAny _ _ (field (.ref r) 1>>=_) _ _ s;refine a_ (n_ z f (x:=.int i 0) U ?_);show wpAny _ _ (seqItems? (.ref t)>>=_) _ _ s;refine a_ (wpAny_seqItems O q ?_);simp only[Nm,Y];refine a_ (wpAny_rule<|a_<|SZ z f (by simp) ?_);show wpAny _ _ (newExc (.type "StopIteration") []>>=_) _ _ _;refine a_ ?_;simp only[newExc,newTuple];refine a_ (r_ ?_<|by size_fits);refine a_ (m:=firstArgMember _ _) (wpAny_of_eq (a:=Value.none) (by first|rfl|(simp only[firstArgMember];rfl)) ?_);refine r_ ?_ (by size_fits);simp only[raiseNew];refine a_ (wpAny_handled ?_);first|rw[show A.in1.handled=none from I]|rw[I]
 refine a_ (d_<|wpAny_throw ?_);exact D _ _ (((Heap.SameBut.update ..).extBut.push _).push _) ⟨_,MB _ U,U⟩
end
def drawsTuple(Z:A.handled=none)(e l:Vr)(Y:l≠e)(I:Array Vq):
  Draws t w A e [e,l] I.size (λi v=>I[i]?=some v) (λi h=>h.IsTupleIter e l i/\h.IsTuple l I) where
 live:=λ_ _ st=>let⟨o,z,_⟩:=st.1;⟨o,z⟩
 frame:=λ_ _ _ st L=>⟨let⟨o,z,r⟩:=st.1;⟨o,L e (by simp) o z,r⟩,let⟨o,z,r⟩:=st.2;⟨o,L l (by simp) o z,r⟩⟩
 item:=λi s Q E D st J=>by
  refine QX st.1 st.2 (x:=I[i]) (by simp[D]) λd q O=>?_;exact J _ d s.toks (by simp[D]) ⟨q,st.2.extBut O.extBut Y⟩ O
 done:=λs Q E st G=>nextOf_tuple_end Z st.1 st.2 (by simp) G
end PySem
namespace L2
open PySem PySem.Spec PyProof.Rows
variable{i:Nat}{h h':Heap}
def IK{e l:Vr}(a:h.IsTupleIter e l i)(k:∀o,h.get? e=some o->h'.get? e=some o):h'.IsTupleIter e l i:=let⟨o,b,c⟩:=a;⟨o,k o b,c⟩
variable{Oi:Array Vq}
def E9{e l:Vr}(t:h.IsTuple l Oi)(a:h.IsTupleIter e l i):l≠e:=by
 rintro rfl;obtain⟨o,x,c,_⟩:=t;obtain⟨I,O,q,_⟩:=a;rw[x]at O;cases O;rw[c]at q;injection q with z;exact absurd z zd
def yx{t:Vt}{w:Vu}{A:Vv}{E:Vq->Vs->Prop}{s:Vs}{e r l:Vr}{old:Vq}{Q:Option Vq->Vs->Prop}(G:A.handled=none)(z:IsEnum s.heap e r i old)(d:s.heap.IsTupleIter r l i)(I:s.heap.IsTuple l Oi)(J:Oi.size<=i)
  (L:∀h',Heap.ExtBut r s.heap h'->Q none {s with heap:=h'}):wpAny (model t w) A (pyNext<|.ref e) Q E s:=by
 have q:s.TypeIs (.ref e) "enumerate":=⟨_,z,U⟩;unfold pyNext;refine a_ (TH<|J_ (name:=Str.ofString "__next__") q TZ<|S_ TZ q PySem.F.entry_enumerate_next ?_<|PySem.F.args_enumerate_next_1 _);show wpAny _ _ (field (.ref e) 2>>=_) _ _ _;refine a_ (n_ z U (x:=.ref r) U ?_);refine a_ (PySem.nextOf_tuple_end G d I (Array.getElem?_eq_none J) λh' x D O=>?_);obtain⟨o,Z,Y⟩:=O;refine a_ (wpAny_isInstance (T:="StopIteration") (b:=true) ⟨o,Z,Y⟩ isSubtype_stop ?_);exact d_ (L _ D)
def zZ(K:ZF)(l:Vr):It:=
 ⟨λi H=>∃e x,P5 K H l e/\e[i]?=some x,
  λi H v q=>∃T x,v=.ref T/\H T=none/\q=aB H T (.tup [.int i,x])/\∀e,P5 K H l e->e[i]?=some x,
  λi H=>∃e,P5 K H l e/\e.length<=i⟩
def uX{P:Vt}{w:Vu}{K:ZF}{We:List Expr}{kt:Nat}{tp:Pos}{e t l:Vr}(Oe:e≠t):
  oJ P w K (.Tuple We kt tp) (zZ K l) [e,t] e (λi h=>(∃old,IsEnum h e t i old)/\h.IsTupleIter t l i) where
 mem:=by simp
 obj:=λi h st b O=>by
  obtain⟨⟨old,D⟩,⟨o1,r,_,d1⟩⟩:=st;simp at O;rcases O with rfl|rfl
  ·exact⟨_,D,λv q=>by cases q⟩
  ·exact⟨_,r,λv q=>by rw[d1]at q;cases q⟩
 keep:=λi h h' st k=>by
  obtain⟨⟨old,D⟩,r⟩:=st;exact⟨⟨old,k e (by simp) _ D⟩,IK r λo q=>k t (by simp) o q⟩
 item:=by
  intro X hP hw hK L i d s R H E I Z st j;subst hP hw hK;obtain⟨xs,x,f,ex⟩:=j;obtain⟨⟨old,D⟩,r⟩:=st;obtain⟨Y,Xm,N,z1⟩:=I.tuple f;obtain⟨u1,J,ei⟩:=Xm.get ex;have G:s.heap.IsTuple l Y.toArray:=let⟨o,a,b,n,c⟩:=N;⟨o,a,b,n,c⟩;have nl:l≠t:=E9 G r;have ea:e∉[t,l]:=by
   intro m;simp only[Mo,Mu,l_]at m;rcases m with m|m
   ·exact Oe m
   ·subst m;obtain⟨o,a,b,_⟩:=G;rw[show s.heap.get? e=_ from D]at a;cases a;injection b with z;exact absurd z zd
  have Oh:i<Y.toArray.size:=by
   have:=(Mc.mp J).1;simpa using this
  refine wpAny_pyNext_enum_itemD (PySem.drawsTuple (A:=X.A.in1) (show X.A.in1.handled=none from I.ok.hd L) t l nl Y.toArray) D ⟨r,G⟩ Oh Oe ea λv h' tk px C ee B a4 a5=>⟨_,U,?_⟩;have et:v=u1:=by
   have e2:Y.toArray[i]?=some u1:=by simpa using J
   rw[e2]at px;exact(MN px).symm
  subst et;have M:=ee.1;refine wpAny_letOwnedTupleGo_enum C λWQ b1 p=>?_;have hT:H s.heap.objs.size=none:=I.hok.fresh (Ml _);have Xn:∀b o,s.heap.get? b=some o->b≠s.heap.objs.size:=λb o q=>ME (Mm q);refine⟨.ref s.heap.objs.size,aB H s.heap.objs.size<|.tup [.int i,x],?_,U,⟨s.heap.objs.size,x,U,hT,U,λen h=>by rw[I.tuple_inj h f];exact ex⟩,?_,λb O=>?_⟩
  ·show P6 X d R (aB H s.heap.objs.size<|.tup [.int i,x]) {s with heap:=WQ,toks:=tk+1};refine P6.turnedS (s:=s) (h':=WQ) (t':=tk+1) (ch:=[e,t]) I (λb O=>Z b O) (λb o L q=>?_) (λb o q=>by rw[al<|au q hT];exact q) (λb O n=>by rw[al<|ME O];exact n) λb o n q=>?_
   ·simp at L;exact p.extBut b o L.1 (a5 b o L.1 L.2 q)
   ·by_cases eb:b=s.heap.objs.size
    ·subst eb;rw[aa]at q;cases q;refine⟨Qa,[.int i tk,v],.cons ⟨_,U⟩<|.cons ei .nil,_,p.extBut _ _ ?_ B,U,_,U⟩;exact λz=>Xn e _ D z.symm
    ·rw[al eb,n]at q;cases q
  ·refine⟨⟨_,b1⟩,IK M λo q=>p.extBut _ o Oe.symm q⟩
  ·have n:=(Z b O).1;have:b≠s.heap.objs.size:=by
    simp at O;obtain⟨_,q1,_⟩:=id r;rcases O with rfl|rfl
    ·exact Xn _ _ D
    ·exact Xn _ _ q1
   rw[al this];exact n
 done:=by
  intro X hP hw hK L i d s R H E I Z st j;subst hP hw hK;obtain⟨xs,f,hl⟩:=j;obtain⟨⟨old,D⟩,r⟩:=st;obtain⟨Y,Xm,N,z1⟩:=I.tuple f;have e1:=Xm.length;have G:s.heap.IsTuple l Y.toArray:=let⟨o,a,b,n,c⟩:=N;⟨o,a,b,n,c⟩;have nl:l≠t:=E9 G r;refine yx (I.ok.hd L) D r G (by simp;lia) λh' k=>⟨U,?_⟩;obtain⟨f0,f1,f2,f3,f4,f5⟩:=Z t (by simp);exact I.turned (t':=s.toks) (λb o O q=>k b o O q) f0 f1 f3 f4 f5
 self:=λ_ _ _ _ _ st h=>S4 st.1.choose_spec h
section
inductive wW(K:ZF)(R:It->Hp->Prop)(vs:VA)(e:Hp):Prop
 |mk(l:_):vs=[.ref l]->(∃t,P5 K e l t)->R (zZ K l) e->wW K R vs e
def Gb(K:ZF)(z:TA):TI:=λe H R=>z e H λvs q=>wW K R vs q
def m7{We:List Expr}{kt:Nat}{tp:Pos}{a:Expr}{J:TA}{p d:Pos}(v:Gl X "enumerate")(j:X.mg "enumerate"=none)(f:PA X [a] J)(N:starEach [a] X.env=[(false,eval a X.env)]:=by rfl):
  PI X (.Tuple We kt tp) (.Call (.Name "enumerate" p) [a] [] d) (Gb X.K J):=by
 refine⟨?_⟩;intro t s σ H R I h;refine Call_ (i4 I v j pi<|Nq (bL (f d t s σ H _ I h) λus z D=>?_) N U);obtain⟨vs,Z,O,r1,B⟩:=D;obtain⟨l,e,⟨xs,C⟩,q⟩:=B;subst e;cases r1 with
 |cons r rr=>
  cases rr;cases r;obtain⟨VJ,Xm,M,z1⟩:=O.tuple C;have W9:z.heap.IsTuple l VJ.toArray:=let⟨o,a,b,n,c⟩:=M;⟨o,a,b,n,c⟩;refine PySem.enum_of_tuple W9 ?_;have sz:(z.heap.push<|PySem.tupIt l).objs.size=z.heap.objs.size+1:=ND ..;have Y:IsEnum ((z.heap.push<|PySem.tupIt l).push<|PySem.enumOver z.heap.objs.size) (z.heap.objs.size+1) z.heap.objs.size 0 .none:=sz▸MB (z.heap.push<|PySem.tupIt l) rfl;have m:((z.heap.push<|PySem.tupIt l).push<|PySem.enumOver z.heap.objs.size).IsTupleIter z.heap.objs.size l 0:=⟨_,Mh _<|MB _ U,U,U⟩;have a4:∀b o,z.heap.get? b=some o->((z.heap.push<|PySem.tupIt l).push<|PySem.enumOver z.heap.objs.size).get? b=some o:=λb o x=>Mh _ (Mh _ x);refine S4 Y ?_;refine⟨_,[z.heap.objs.size+1,z.heap.objs.size],_,_,Z,U,O.kept (t':=z.toks) a4,uX<|N5<|NG _,⟨⟨_,Y⟩,m⟩,λb G=>?_,q⟩;have L:z.heap.objs.size<=b:=by
   simp only[Mo,Mu,l_]at G;rcases G with e|e<;>rw[e]
   ·exact C_ _ _
   ·exact Ml _
  exact O.fpOk L (O.hok.fresh L)
end
def kK{K:ZF}{l:Vr}{xs:VA}{g:TG}{J:TS}{D:Qr}{t:St}{H:Hp}(Pv:Nat->St->Hp->Prop)(Z:Pv 0 t H)(d:∀i t H,i<=xs.length->Pv i t H->P5 K H l xs)
  (f:∀i x t H T,xs[i]?=some x->H T=none->Pv i t H->g (.ref T) t (aB H T<|.tup [.int i,x]) λI L=>J {D with nx:=Pv (i+1),ct:=Pv (i+1),bk:=D.nx} I L) (o:∀t H,Pv xs.length t H->D.nx t H) :
  ∃W:Nat->Nat->St->Hp->Prop,(∃m,W 0 m t H)/\∀i m t H,W i m t H->
   ((zZ K l).stop i H/\D.nx t H)\/((zZ K l).go i H/\∃N:St->Hp->Prop,(∀O z,N O z->∃G,G<m/\W (i+1) G O z)/\∀x z,(zZ K l).yld i H x z->g x t z λI L=>J {D with nx:=N,ct:=N,bk:=D.nx} I L):=by
 refine⟨λi m t H=>m=xs.length-i/\i<=xs.length/\Pv i t H,⟨xs.length,by simp,MR _,Z⟩,?_⟩;rintro i m t H ⟨rfl,r,p⟩;have q:=d i t H r p;by_cases Y:i<xs.length
 ·refine .inr ⟨⟨xs,xs[i],q,by simp[Y]⟩,Pv<|i+1,λO z p'=>⟨xs.length-(i+1),zo,U,Y,p'⟩,λv z y=>?_⟩;obtain⟨T,x,e1,hT,e2,j⟩:=y;subst e1 e2;exact f i x t H T (j xs q) hT p
 ·have e:i=xs.length:=by lia
  subst e;exact .inl ⟨⟨xs,q,Ml _⟩,o t H p⟩
end L2
namespace L3
open PySem L2
def top(i:Nat):Stmt:=PySem.Challenge.pw_rowsbeneath_k61_plain_kinds.main.body.getD i (.Pass ⟨0,0,0,0⟩)
abbrev iE:Stmt:=top 40
abbrev uY:Stmt:=top 4
abbrev qh:Stmt:=top 5
abbrev pj:Stmt:=top 6
abbrev Gc:Stmt:=top 18
abbrev fA:Stmt:=top 51
abbrev kL:Stmt:=top 52
abbrev gG:Stmt:=top 53
abbrev je:Stmt:=top 54
abbrev kM:Stmt:=top 55
abbrev ik:Stmt:=top 56
abbrev jf:Stmt:=top 57
abbrev kN:Stmt:=top 58
abbrev il:Stmt:=top 59
abbrev kO:Stmt:=top 60
abbrev iF:Stmt:=top 61
abbrev m8:Stmt:=top 62
abbrev nh:Stmt:=top 63
abbrev kP:Stmt:=top 64
abbrev kQ:Stmt:=top 65
abbrev ni:Stmt:=top 66
abbrev ma:Stmt:=top 68
abbrev gH:Stmt:=top 70
abbrev nj:Stmt:=top 71
abbrev jg:Stmt:=top 72
abbrev im:Stmt:=top 73
abbrev jh:Stmt:=top 74
abbrev md:Stmt:=top 75
abbrev qi:Stmt:=top 76
abbrev uZ:Stmt:=top 77
abbrev u7:Stmt:=top 78
abbrev qj:Stmt:=top 79
abbrev qk:Stmt:=top 85
abbrev z4:Stmt:=top 86
abbrev Gd:Stmt:=top 87
abbrev ji:Stmt:=top 88
abbrev z5:Stmt:=top 90
abbrev ql:Stmt:=top 91
abbrev z6:Stmt:=top 92
abbrev u9:Stmt:=top 93
abbrev wX:Stmt:=top 94
abbrev qm:Stmt:=top 95
abbrev qo:Stmt:=top 100
abbrev wY:Stmt:=top 96
abbrev vf:Stmt:=top 102
abbrev qp:Stmt:=top 97
abbrev nq:Stmt:=top 103
abbrev kR:Stmt:=top 104
abbrev kU:Stmt:=top 105
abbrev jk:Stmt:=top 106
abbrev nr:Stmt:=top 110
abbrev cZ:Stmt:=top 111
abbrev vh:Stmt:=top 112
abbrev qr:Stmt:=top 20
abbrev jJ:Stmt:=top 24
abbrev vi:Stmt:=top 25
abbrev vj:Stmt:=top 26
abbrev mh:Stmt:=top 27
abbrev qt:Stmt:=top 28
abbrev qu:Stmt:=top 98
abbrev z7:Stmt:=top 99
abbrev vk:Stmt:=top 101
abbrev z8:Stmt:=top 107
abbrev jK:Stmt:=top 108
abbrev mj:Stmt:=top 109
def Fn(P:Vt)(w:Vu)(K:ZF)(t:Str->Option Vq)(e:Heap)(x:Str)(k:Nat)(o:Vx)(sp:Sp):Prop:=
 ∃(f:Vr)(q:Vw),t x=some (.ref f)/\PySem.W.keepIn K (.ref f)=true/\Qk K q o []/\P7 P w K t e ce k f q o sp
def LS(sp:Sp)(t:TA):TE:=λe H Q=>t e H λvs q=>sp vs q Q E0
def ap(h:Fn X.prog X.w X.K X.mg X.base x k N sp)(hr:P9 k X.A)(Z:Gl X x)(Y:PA X (e::o) t)(L:(x==("__debug__":Str))=false:=by decide)
  (J:starEach (e::o) X.env=(false,eval e X.env)::starEach o X.env:=by rfl) (D:(backTo r<|starEach o X.env).any (·.1)=false:=by rfl):PE X (.Call (.Name x p) (e::o) [] r) (LS sp t):=by
 obtain⟨f,j,v,m,G,F⟩:=h;refine⟨?_⟩;intro i s d H Q I q;have O:PA X (e::o) t:=Y;refine CZ (dvs:=[]) (E:=E0) F hr Z v m G .nil lL O L J D i s d H Q I ?_;show t d H λvs z=>sp (vs++[]) z Q E0;have e2:(λvs z=>sp (vs++[]) z Q E0)=λvs z=>sp vs z Q E0:=by
  funext vs z;rw[MM]
 rw[e2];exact q
def Ge(h:Fn X.prog X.w X.K X.mg X.base x k [] sp)(hr:P9 k X.A)(D:Gl X x)(z:(x==("__debug__":Str))=false:=by decide):PE X (.Call (.Name x p) [] [] t) (λ_ H Q=>sp [] H Q E0):=by
 obtain⟨f,G,Y,L,O,F⟩:=h;refine⟨?_⟩;intro e s o H Q I q;exact zx (dvs:=[]) (E:=E0) F hr D Y L O .nil lL z e s o H Q I q
def ag(h:H p=none):P4 H (aB H p o):=λb u e=>by rw[al<|au e h];exact e
def nw{H q:Hp}{a:Vr}{o:HO}(n:H a=none)(z:aB H a o=q):P4 H q/\q a=some o:=z▸⟨ag n,aa⟩
def c7(q:H p=none)(s:P4 H t):P4 H (aB t p o):=λb u e=>by rw[al<|au e q];exact s b u e
section
variable{b:Bool}{A B:Prop}
def aY(e:b=false)(h:B):if b=true then A else B:=by rw[e];exact cD h
def bx(e:b=true)(h:A):if b=true then A else B:=by rw[e];exact kG h
def jL{l:Vy}{i:Nat}(h:i<l.length):oH (S l).cps.toList (i:Int)=some l[i]:=aI (by show l.toArray.toList[i]?=_;simp[h])
def IL:("":Str)=S []:=by decide +kernel
def z9(z:Str):z=S z.cps.toList:=by
 show z=⟨z.cps.toList.toArray⟩;simp
def cE(a b:Vy):S a++S b=S (a++b):=by
 show(⟨(S a).cps++(S b).cps⟩:Str)=⟨(a++b).toArray⟩
 congr 1
 simp[S]
def c8:bootBuiltins "isinstance"=some (.builtin "isinstance"):=by decide +kernel
def fB:bootBuiltins "list"=some (.type "list"):=by decide +kernel
def eP:bootBuiltins "str"=some (.type "str"):=by decide +kernel
def gI:bootBuiltins "bool"=some (.type "bool"):=by decide +kernel
def cu:bootBuiltins "tuple"=some (.type "tuple"):=by decide +kernel
def gw:bootBuiltins "all"=some (.builtin "all"):=by decide +kernel
structure Bl(mg:Str->Option Vq):Prop where
 len:mg "len"=none
 int:mg "int"=none
 max:mg "max"=none
 min:mg "min"=none
 range:mg "range"=none
 isinstance:mg "isinstance"=none
 list:mg "list"=none
 str:mg "str"=none
 bool:mg "bool"=none
 tuple:mg "tuple"=none
 all:mg "all"=none
def qv(x y z:Int):HO:=.lst [.int x,.int y,.int z]
def Qg(H:Hp)(p:Vr):Prop:=∃x y z:Int,H p=some (qv x y z)
def Ql(p:Vr)(H q:Hp):Prop:=∀b o,H b=some o->b≠p->q b=some o
def Ql.refl(p:Vr)(H:Hp):Ql p H H:=λ_ _ e _=>e
def Ql.trans(a:Ql p H t)(b:Ql p t i):Ql p H i:=λc o e n=>b c o (a c o e n) n
def Ql.same(a:Ql p H t)(b:P4 t i):Ql p H i:=λc o e n=>b c o (a c o e n)
def cH(b:P4 H t):Ql p H t:=λc o e _=>b c o e
def Qg.same(a:Qg H p)(b:P4 H t):Qg t p:=by obtain⟨x,y,z,e⟩:=a;exact ⟨x,y,z,b _ _ e⟩
def Qg.ne(a:Qg H p)(h:H q=none):p≠q:=by obtain⟨_,_,_,e⟩:=a;exact au e h
inductive vq(K:ZF)(vs:VA)(H:Hp)(Q:VK)(e:XK):Prop
 |mk(a:Vr)(ns:List Int)(k:Int):vs=[.ref a,.int k]->P8 K H a (ns.map V.int)->0<=k->(∀c:Int,Q (.int c) H)->vq K vs H Q e
inductive nu(vs:VA)(H:Hp)(Q:VK)(t:XK):Prop
 |mk(c:Int):vs=[.int c]->(∀(p:Vr)e,H p=none->P4 H e->Qg e p->Q (.ref p) e)->nu vs H Q t
inductive dE(vs:VA)(H:Hp)(Q:VK)(t:XK):Prop
 |mk(p:Vr)(m:Nat):vs=[.ref p,.int m]->Qg H p->0<m->m<18446744073709551616->(∀(r:Nat)e,r<m->Qg e p->Ql p H e->Q (.int r) e)->dE vs H Q t
section
def Gf:ax [UH,UR] [UH,UR] (aj z5):=cP zk
def De(F:Qj K "_law_cell" "_law_cell" z5 f t)(T:Bl o):P7 P w K o e ce 1 f t [UH,UR] (vq K):=by
 have ZZ:=Gf
 walk_at "o"
 ·obtain⟨a,z,k,rfl,O,L,q⟩:=h;refine⟨_,ae (aP (bY eR (pv 1)<|aC aT (by rfl) T.len MG<|aV<|pv 0) (ai<|ao<|eZ (pv 0)<|pv 1) ay)
   (ai<|ao<|az bM (az gC af<|pv 1) af),?_⟩
  refine⟨_,U,_,U,a,_,U,.inl O,_,_,U,U,_,U,?_⟩;refine bE (λh=>?_) (λh=>?_)
  ·have I:k<((z.map V.int).length:Int):=i_ h;rw[Me]at I;obtain⟨n,rfl⟩:∃n:Nat,k=n:=⟨k.toNat,zo⟩;have D:n<z.length:=by lia
   refine⟨_,U,_,U,a,_,_,_,U,U,O,aI (v:=.int z[n]) (by simp[D]),q _⟩
  ·exact⟨_,U,_,_,U,U,.inl ⟨zd,zd⟩,_,_,U,U,q _⟩
def Aa:ax [U2] [U2] (aj ql):=cP zk
def yy(F:Qj K "_law_stream" "_law_stream" ql f t)(T:Bl o):P7 P w K o e ce 1 f t [U2] nu:=by
 have ZZ:=Aa
 walk_at "o"
 ·obtain⟨c,rfl,q⟩:=h;refine⟨_,ai (ao<|aM<|du (az gC (pv 0)<|aU dJ (by rfl) T.int M0<|aV<|uC Io (pv 0)<|az FY af af) (az ft (pv 0) af) af),_,U,_,U,_,_,U,U,⟨zd,zd,zd⟩,_,_,U,U,.inr ⟨_,U,?_⟩⟩;refine⟨_,_,U,U,.inr (by split<;>decide),_,U,_,_,U,U,(by show(0:Int)<2147483629;decide),Qa,λl z=>?_⟩;exact q l _ z (ag z) ⟨_,_,_,aa⟩
def Rx:ax [Ue,Uw,"_law_digit","_law_number"] [Ue,Uw] (aj z6):=cP zk
def sS(q:0<m)(h:m<2^64):-(2^64)<n%m/\n%m<2^64:=by
 have:=TY n (show m≠0 by lia);have:=To n q;lia
def Df(F:Qj K "_law_take" "_law_take" z6 f i):P7 P w K d t ce 1 f i [Ue,Uw] dE:=by
 have ZZ:=Rx
 walk_at "o"
 ·obtain⟨p,m,rfl,⟨x,y,z,O⟩,Z,m1,q⟩:=h;have B':∀(e D L Y:Int)I,0<=e->e<m->Ql p H I->Q (.int e) (aB I p<|qv D L Y):=λe D L Y I G r b=>by
   have:=q e.toNat (aB I p<|qv D L Y) zo ⟨_,_,_,aa⟩ (λc o e n=>by rw[al n];exact b c o e n);rw[Int.toNat_of_nonneg G]at this;exact this
  have J:∀o,Ql p H (aB H p o):=λo c u e n=>by rw[al n];exact e
  refine⟨_,ae (aP (bY sf (eZ (pv 0) af) af)
    (ae (bP 2 Rx.nd<|az ft (eZ (pv 0) af)<|pv 1)
    (ae (gB (az zT (eZ (pv 0) af)<|pv 1)<|ze (pv 0) af sr)
    (ai<|ao<|pv 2))) ay)
   (ae (gB (az bM (eZ (pv 0) af) af)<|ze (pv 0) af sr)
   (ae (bP 3 Rx.nd<|az ft (az bM (az gC (az bM (eZ (pv 0) af)<|az gC af<|eZ (pv 0) af) af) af) af)
   (ae (bP 3 Rx.nd<|az ft (az gC (pv 3)<|pv 3) af)
   (ai<|ao<|az ft (az pV (az ft (az bM (az gC (pv 3)<|pv 3)<|az gC af<|eZ (pv 0) af) af) af)<|pv 1)))),?_⟩
  refine⟨_,U,p,_,_,_,U,U,P8.of O,U,_,_,U,U,_,U,?_⟩;refine bE (λh=>?_) (λh=>?_)
  ·refine⟨_,U,p,_,_,_,U,U,P8.of O,U,_,U,_,_,U,U,(by show(0:Int)<(m:Int);lia),_,U,p,_,_,_,U,U,P8.of O,U,_,U,_,_,U,U,⟨by show(0:Int)<(m:Int);lia,by show(m:Int)<18446744073709551616;lia⟩,_,U,p,_,_,_,U,U,O,U,_,U,?_⟩;exact B' _ _ _ _ _ (TY _ zo) (To _ zo) (Ql.refl _ _)
  ·refine⟨_,U,p,_,_,_,U,U,P8.of O,U,_,_,U,U,_,U,p,_,_,_,U,U,O,U,_,U,p,_,_,_,U,U,P8.of aa,U,_,U,p,_,_,_,U,U,P8.of aa,U,_,_,U,U,.inl ⟨zd,zd⟩,_,_,U,U,_,_,U,U,.inr ⟨zd,zd⟩,_,_,U,U,_,_,U,U,(by show(0:Int)<2147483647;decide),_,U,_,U,_,_,U,U,.inl<|sS zd zd,_,_,U,U,(by show(0:Int)<2147483629;decide),_,U,_,U,_,_,U,U,.inl<|sS zd zd,_,U,p,_,_,_,U,U,P8.of aa,U,_,_,U,U,.inl ⟨zd,zd⟩,_,_,U,U,_,_,U,U,(by show(0:Int)<2147483587;decide),_,_,U,U,⟨zd,zd⟩,_,U,_,_,U,U,(by show(0:Int)<(m:Int);lia),?_⟩;exact B' _ _ _ _ _ (TY _ zo) (To _ zo) (Ql.refl _ _)
end
end
def am(l:Vx):VA:=l.map V.str
def nv(P:Vt)(w:Vu)(K:ZF)(o:Str->Option Vq)(e:Heap)(C:Vr)(nm:Str)(n:Nat)(t:Vx)(sp:Sp):Prop:=∃f q,yi K C nm f/\P7 P w K o e ce n f q t sp/\Qk K q t []
def CF(l:Vr)(k:Nat)(q:Bool):List (Str×V):=[(UM,.ref l),(Vj,.int k),("may_end",.bl q)]
structure Qs(C:Vr)(H:Hp)(a l:Vr)(ts:Vx)(k:Nat)(me:Bool):Prop where
 ob:∃dx,H a=some (.ins C dx<|CF l k me)
 tk:H l=some (.lst<|am<|ts++[("":Str)])
 le:ts.length<=1500
def Qc(a:Vr)(H q:Hp):Prop:=∀b o,H b=some o->b≠a->q b=some o
def Qc.refl(p:Vr)(H:Hp):Qc p H H:=λ_ _ e _=>e
def Qc.trans(a:Qc p H t)(b:Qc p t i):Qc p H i:=λc o e n=>b c o (a c o e n) n
def Qc.same(a:Qc p H t)(b:P4 t i):Qc p H i:=λc o e n=>b c o (a c o e n)
def bR(b:P4 H t):Qc p H t:=λc o e _=>b c o e
def Qs.same(h:Qs C H a l o k me)(s:P4 H t):Qs C t a l o k me:=⟨let⟨q,e⟩:=h.ob;⟨q,s _ _ e⟩,s _ _ h.tk,h.le⟩
def Qs.ne(h:Qs C H a l t k me):l≠a:=by
 rintro rfl;obtain⟨q,e⟩:=h.ob;rw[h.tk]at e;cases e
structure Rc(K:ZF)(C:Vr):Prop where
 cl:R0 K C
 n1:Qm K C UM
 n2:Qm K C Vj
 n3:Qm K C "may_end"
inductive vz(C:Vr)(vs:VA)(H:Hp)(Q:VK)(t:XK):Prop
 |mk(a l e k me z:_):vs=[.ref a]->Qs C H a l e k me->(e++[("":Str)])[k]?=some z->Q (.str z) H->vz C vs H Q t
inductive Gg(C:Vr)(vs:VA)(H:Hp)(Q:VK)(o:XK):Prop
 |mk(a l t k me z:_):vs=[.ref a]->Qs C H a l t k me->(t++[("":Str)])[k]?=some z->(∀e,Qs C e a l t (k+1) me->Qc a H e->Q (.str z) e)->Gg C vs H Q o
inductive vA(K:ZF)(C:Vr)(vs:VA)(H:Hp)(Q:VK)(i:XK):Prop
 |mk(a l t k me z p o:_):vs=[.ref a,.ref p]->Qs C H a l t k me->(t++[("":Str)])[k]?=some z->(P8 K H p (am o)\/P5 K H p (am o))->z∈o->(∀e,Qs C e a l t (k+1) me->Qc a H e->Q (.str z) e)->vA K C vs H Q i
abbrev Ab:Stmt:=dk fA 1
abbrev KO:Stmt:=dk fA 2
abbrev Ac:Stmt:=dk fA 3
def Ad{e:Vx}{k:Nat}{z:Str}(h:(e++[("":Str)])[k]?=some z):(am<|e++[("":Str)])[k]?=some (.str z):=by unfold am;rw[Mt,h];rfl
def dZ(x:Str)(l:Vx):ic (.str x) (am l)=l.contains x:=by
 unfold ic am;rw[List.any_map,No,List.any_eq_true,MV];constructor
 ·rintro⟨y,z,e⟩;have:y=x:=by simpa[yl]using e
  rw[<-this];exact z
 ·intro q;exact⟨x,q,by simp[yl]⟩
def cQ(l:Vx):(am l).all eU=true:=by
 unfold am;rw[N6,MT];intro x _;rfl
section
def Gh:ax [Ui] [Ui] (aj Ab):=cP zk
variable{t:Vw}{f:Vr}
def Dg(F:Qj K "look" "Reader.look" Ab f t)(T:Rc K C):P7 P w K o e ce 1 f t [Ui] (vz C):=by
 have ZZ:=Gh
 walk_at "o"
 ·obtain⟨a,l,i,k,Y,z,rfl,I,L,q⟩:=h;refine⟨_,ai<|ao<|eZ (eJ (pv 0) U)<|eJ (pv 0) U,?_⟩;obtain⟨O,D⟩:=I.ob;exact⟨_,U,a,C,O,_,_,U,D,T.cl,T.n1,U,_,U,a,C,O,_,_,U,D,T.cl,T.n2,U,l,_,_,_,U,U,P8.of I.tk,aI<|Ad L,q⟩
def KP:ax [Ui] [Ui] (aj KO):=cP zk
def IM(F:Qj K "take" "Reader.take" KO f t)(T:Rc K C):P7 P w K d i ce 1 f t [Ui] (Gg C):=by
 have ZZ:=KP
 walk_at "o"
 ·obtain⟨a,l,r,k,I,z,rfl,D,G,q⟩:=h;refine⟨_,ae (oX (pv 0) af zw)<|ai<|ao<|eZ (eJ (pv 0) U)<|az kD (eJ (pv 0) U) af,?_⟩;obtain⟨O,L⟩:=D.ob;refine⟨_,U,a,C,O,_,_,U,L,T.cl,T.n2,U,_,_,U,U,O,_,L,(by show 3<1000;decide),?_⟩;have e1:(aB H a<|.ins C O<|aN Vj (.int<|(k:Int)+1)<|CF l k I) a=some (.ins C O<|CF l (k+1) I):=by rw[aa];rfl
  have e2:(aB H a<|.ins C O<|aN Vj (.int<|(k:Int)+1)<|CF l k I) l=some (.lst<|am<|r++[("":Str)]):=by rw[al D.ne];exact D.tk
  have Y:Qc a H (aB H a<|.ins C O<|aN Vj (.int<|(k:Int)+1)<|CF l k I):=λb o e n=>by rw[al n];exact e
  generalize aB H a (.ins C O<|aN Vj (.int<|(k:Int)+1)<|CF l k I)=J at*;refine⟨_,U,a,C,O,_,_,U,e1,T.cl,T.n1,U,_,U,a,C,O,_,_,U,e1,T.cl,T.n2,U,_,_,U,U,l,_,_,_,U,U,P8.of e2,?_,q _ ⟨⟨O,e1⟩,e2,D.le⟩ Y⟩;have:(((k+1:Nat):Int)-1)=(k:Int):=by lia
  rw[this];exact aI (Ad G)
structure Rm(P:Vt)(w:Vu)(K:ZF)(mg:Str->Option Vq)(base:Heap)(C:Vr):Prop extends Rc K C where
 look:nv P w K mg base C "look" 1 [Ui] (vz C)
 take:nv P w K mg base C "take" 1 [Ui] (Gg C)
def Gi:ax [Ui,UG] [Ui,UG] (aj Ac):=cP zk
def Dh(F:Qj K "need" "Reader.need" Ac f t)(T:Rm P w K m e C):P7 P w K m e ce 2 f t [Ui,UG] (vA K C):=by
 have ZZ:=Gi
 walk_at "o"
 ·obtain⟨a,l,o,k,G,z,p,i,rfl,O,Y,d,r,q⟩:=h;have I:P9 1 _:=hr;refine⟨_,ae (aP (cy dX (aX<|pv 0) (pv 1) U) (ai dv) ay)<|ai<|ao<|aX<|pv 0,?_⟩;obtain⟨D,L⟩:=O.ob;obtain⟨f1,Oa,M1,F1,J⟩:=T.look;obtain⟨f2,Wc,M2,F2,Z⟩:=T.take;refine⟨_,U,a,D,C,f1,_,Oa,1,[Ui],_,U,L,U,T.cl,M1,F1,I,J,a,l,o,k,G,z,U,O,Y,_,U,p,am i,U,?_,U,cQ _,_,U,aY ?_ ?_⟩
  ·exact d
  ·show(!ic (.str z) (am i))=false;rw[dZ,MV.mpr r];rfl
  ·exact⟨_,U,a,D,C,f2,_,Wc,1,[Ui],_,U,L,U,T.cl,M2,F2,I,Z,a,l,o,k,G,z,U,O,Y,q⟩
end
abbrev tz(e:Vx):Vx:=e++[("":Str)]
def Q0:Vx:=[UI,Uo,Uq,Ul,Up,UD,Uv,Uh,Uk,"number",U3,"set",Vf,Vb,UW,UJ,U4,Uz,UN,UO,Ut,"bell"]
def Qh(z:Str):Prop:=z∉Q0/\1<=z.length/\z.length<=8/\∀c∈z.cps.toList,97<=c/\c<=122
inductive Gj(vs:VA)(H:Hp)(Q:VK)(t:XK):Prop
 |mk(z:_):vs=[.str z]->Qh z->(∀e,P4 H e->Q (.bl true) e)->Gj vs H Q t
inductive qw(vs:VA)(H:Hp)(Q:VK)(t:XK):Prop
 |mk(n:Nat):vs=[.str (toString (n:Int):Str)]->n<1000000000->(∀e,P4 H e->Q (.int n) e)->qw vs H Q t
inductive qx(vs:VA)(H:Hp)(Q:VK)(e:XK):Prop
 |mk(i:Int):vs=[.int i]->Q (.bl true) H->qx vs H Q e
inductive ny(vs:VA)(H:Hp)(Q:VK)(t:XK):Prop
 |mk(i lo e:Int):vs=[.int i,.int lo,.int e]->lo<=i->i<=e->Q (.bl true) H->ny vs H Q t
inductive jl(C:Vr)(vs:VA)(H:Hp)(Q:VK)(o:XK):Prop
 |mk(a l t k me z:_):vs=[.ref a]->Qs C H a l t k me->(tz t)[k]?=some z->Qh z->(∀e,Qs C e a l t (k+1) me->Qc a H e->Q (.str z) e)->jl C vs H Q o
inductive gJ(C:Vr)(vs:VA)(H:Hp)(Q:VK)(i:XK):Prop
 |mk(a l t k me:_)(n lo o:Nat):vs=[.ref a,.int lo,.int o]->Qs C H a l t k me->(tz t)[k]?=some (toString (n:Int):Str)->n<1000000000->lo<=n->n<=o->(∀e,Qs C e a l t (k+1) me->Qc a H e->Q (.int n) e)->gJ C vs H Q i
inductive kW(C:Vr)(vs:VA)(H:Hp)(Q:VK)(t:XK):Prop
 |mk(a l e k:_):vs=[.ref a]->Qs C H a l e k true->k=e.length->Q .non H->kW C vs H Q t
abbrev kX:Stmt:=dk fA 4
abbrev io:Stmt:=dk fA 5
abbrev nA:Stmt:=dk fA 6
section
def Di:ax [UU] [UU] (aj uY):=cP zk
def Ae(F:Qj K "is_whole" "is_whole" uY f t)(T:Bl o):P7 P w K o e ce 1 f t [UU] qx:=by
 have ZZ:=Di
 walk_at "o"
 ·obtain⟨i,rfl,q⟩:=h;exact⟨_,ai (ao<|fX (aC (gF (T:="int")) (by rfl) T.isinstance c8<|bj (pv 0)<|iZ (by rfl) T.int M0)<|fb<|FN<|aC (gF (T:="bool")) (by rfl) T.isinstance c8<|bj (pv 0)<|iZ (by rfl) T.bool gI),_,U,_,_,_,U,.int _,U,_,U,kG ⟨_,U,_,_,_,U,.int _,U,_,U,q⟩⟩
def Af:ax [UU,Vn,Vc] [UU,Vn,Vc] (aj qh):=cP zk
def yz(F:Qj K "is_within" "is_within" qh f t)(z:Fn P w K d e "is_whole" 1 [UU] qx):P7 P w K d e ce 2 f t [UU,Vn,Vc] ny:=by
 have ZZ:=Af
 walk_at "o"
 ·obtain⟨i,lo,O,rfl,o,r,q⟩:=h;refine⟨_,ai<|ao<|fX (ap z hr U<|aV<|pv 0)<|fb<|mQ jD jD (pv 1) (pv 0)<|pv 2,_,U,i,U,_,U,kG ⟨_,U,_,U,_,_,U,U,_,U,bx (b_ o) ⟨_,U,_,_,U,U,?_⟩⟩⟩;show Q (V.bl<|decide (i<=O)) H;rw[b_ r];exact q
def vB:ax [Ui] [Ui] (aj kX):=cP zk
def sU(F:Qj K "need_name" "Reader.need_name" kX f d)(T:Rm P w K t e C)(NM:Fn P w K t e "is_name" 1 [UU] Gj):P7 P w K t e ce 2 f d [Ui] (jl C):=by
 have ZZ:=vB
 walk_at "o"
 ·obtain⟨a,l,o,k,J,z,rfl,I,G,m,q⟩:=h;have O:P9 1 _:=hr;refine⟨_,ae (aP (dW<|dq<|ap NM O U<|aV<|aX<|pv 0) (ai dv) ay)<|ai<|ao<|aX<|pv 0,?_⟩;obtain⟨L,Y⟩:=I.ob;obtain⟨f1,Oa,M1,F1,Z⟩:=T.look;obtain⟨f2,Wc,M2,F2,B2⟩:=T.take;refine⟨_,U,a,L,C,f1,_,Oa,1,[Ui],_,U,Y,U,T.cl,M1,F1,O,Z,a,l,o,k,J,z,U,I,G,z,U,m,λv D=>⟨_,U,cD ?_⟩⟩;exact⟨_,U,a,L,C,f2,_,Wc,1,[Ui],_,U,D _ _ Y,U,T.cl,M2,F2,O,B2,a,l,o,k,J,z,U,I.same D,G,λi p r=>q i p<|(bR D).trans r⟩
def QU:ax [Ui,Vn,Vc,"number"] [Ui,Vn,Vc] (aj io):=cP zk
def oQ(F:Qj K "need_number" "Reader.need_number" io f d)(T:Rm P w K i t C)(NU:Fn P w K i t "number_of" 1 [Vo] qw)(WI:Fn P w K i t "is_within" 2 [UU,Vn,Vc] ny):P7 P w K i t ce 3 f d [Ui,Vn,Vc] (gJ C):=by
 have ZZ:=QU
 walk_at "o"
 ·obtain⟨a,l,r,k,I,n,lo,p,rfl,O,j,v,N,R,q⟩:=h;refine⟨_,ae (bP 3 QU.nd<|ap NU hr.m U<|aV<|aX<|pv 0)
   (ae (aP (dW<|dq<|ap WI hr U<|du (pv 3) (pv 1)<|pv 2) (ai dv) ay)
   (ae (oX (pv 0) af zw)<|ai<|ao<|pv 3)),?_⟩
  obtain⟨z,J⟩:=O.ob;obtain⟨f1,Oa,M1,F1,Z⟩:=T.look;refine⟨_,U,a,z,C,f1,_,Oa,1,[Ui],_,U,J,U,T.cl,M1,F1,hr.m,Z,a,l,r,k,I,_,U,O,j,n,U,v,λY L=>?_⟩;refine⟨_,U,_,U,_,U,(n:Int),(lo:Int),(p:Int),U,zo,zo,_,U,cD ?_⟩;have D:=O.same L;have G:=L _ _ J;refine⟨_,U,a,C,z,_,_,U,G,T.cl,T.n2,U,_,_,U,U,z,_,G,(by show 3<1000;decide),?_⟩;have e1:(aB Y a<|.ins C z<|aN Vj (.int<|(k:Int)+1)<|CF l k I) a=some (.ins C z<|CF l (k+1) I):=by rw[aa];rfl
  have e2:(aB Y a<|.ins C z<|aN Vj (.int<|(k:Int)+1)<|CF l k I) l=some (.lst<|am<|r++[("":Str)]):=by rw[al O.ne];exact D.tk
  exact⟨_,U,q _ ⟨⟨z,e1⟩,e2,O.le⟩ λb o e n=>by rw[al n];exact L _ _ e⟩
def yA:ax [Ui] [Ui] (aj nA):=cP zk
def vD(F:Qj K "need_end" "Reader.need_end" nA f o)(T:Rm P w K t e C)(B:Bl t):P7 P w K t e ce 1 f o [Ui] (kW C):=by
 have ZZ:=yA
 walk_at "o"
 ·obtain⟨a,l,i,k,rfl,I,D,q⟩:=h;refine⟨_,ai (aP (PW.pt<|fL (dW<|dq<|eJ (pv 0) U)<|dU<|bY eR (az bM (eJ (pv 0) U) af)<|aC aT (by rfl) B.len MG<|aV<|eJ (pv 0) U) (ai dv) ay),?_⟩;obtain⟨z,O⟩:=I.ob;refine⟨_,U,a,C,z,_,_,U,O,T.cl,T.n3,U,_,U,cD ?_⟩;refine⟨_,U,a,C,z,_,_,U,O,T.cl,T.n2,U,_,_,U,U,_,U,a,C,z,_,_,U,O,T.cl,T.n1,U,l,_,U,.inl<|P8.of I.tk,_,_,U,U,_,U,aY (c_ ?_) q⟩;unfold am;rw[Me,Md];simp;lia
end
structure uD(P:Vt)(w:Vu)(K:ZF)(mg:Str->Option Vq)(base:Heap)(C:Vr):Prop extends Rm P w K mg base C where
 need:nv P w K mg base C "need" 2 [Ui,UG] (vA K C)
 nname:nv P w K mg base C "need_name" 2 [Ui] (jl C)
 nnum:nv P w K mg base C "need_number" 3 [Ui,Vn,Vc] (gJ C)
 nend:nv P w K mg base C "need_end" 1 [Ui] (kW C)
inductive kY(C:Vr)(vs:VA)(H:Hp)(Q:VK)(i:XK):Prop
 |mk(a l e k me wd:_)(n lo o:Nat):vs=[.ref a,.str wd,.int lo,.int o]->Qs C H a l e k me->(tz e)[k]?=some wd->(tz e)[k+1]?=some (toString (n:Int):Str)->(tz e)[k+2]?=some ";"->n<1000000000->lo<=n->n<=o->(∀t,Qs C t a l e (k+3) me->Qc a H t->Q (.int n) t)->kY C vs H Q i
def sV(t:Vx)(k:Nat)(e:Vx):Prop:=∀i(h:i<e.length),(tz t)[k+i]?=some e[i]/\Qh e[i]
inductive qy(C:Vr)(vs:VA)(H:Hp)(Q:VK)(r:XK):Prop
 |mk(a l t k me wd e:_)(lo i:Nat):vs=[.ref a,.str wd,.int lo,.int i]->Qs C H a l t k me->(tz t)[k]?=some wd->sV t (k+1) e->(tz t)[k+1+e.length]?=some ";"->lo<=e.length->e.length<=i->i<=10->(∀p o,Qs C o a l t (k+2+e.length) me->Qc a H o->H p=none->o p=some (.tup<|am e)->Q (.ref p) o)->qy C vs H Q r
section
def Rq:ax [Um,UI,Vn,Vc,"number"] [Um,UI,Vn,Vc] (aj gG):=cP zk
def vF(F:Qj K "read_bounded" "read_bounded" gG f R)(T:uD P w K mg e C):P7 P w K mg e ce 4 f R [Um,UI,Vn,Vc] (kY C):=by
 have ZZ:=Rq
 walk_at "o"
 ·obtain⟨a,l,t,k,z,O,n,lo,X,rfl,J,t0,t1,t2,hn,M,B,q⟩:=h;refine⟨_,ae (aL<|br (pv 0)<|aV<|aw<|aV<|pv 1)
   (ae (bP 4 Rq.nd<|br (pv 0)<|bj (pv 2)<|pv 3)
   (ae (aL<|br (pv 0)<|aV<|aw<|aV ah)
   (ai<|ao<|pv 4))),?_⟩
  obtain⟨G,Y,L,D,I⟩:=T.need;obtain⟨f2,Wc,M2,F2,B2⟩:=T.nnum;obtain⟨N,ho⟩:=J.ob;refine⟨_,U,a,N,C,G,_,Y,2,[Ui,UG],_,U,ho,U,T.cl,L,D,hr.m,I,_,U,Qa,λp1 n1=>?_⟩;have r:=ag (o:=.tup [.str O]) n1;refine⟨a,l,t,k,z,O,p1,[O],U,J.same r,t0,(.inr<|P5.of aa),by simp,λH1 Z v=>?_⟩;obtain⟨WS,VO⟩:=Z.ob;refine⟨_,U,a,WS,C,f2,_,Wc,3,[Ui,Vn,Vc],_,U,VO,U,T.cl,M2,F2,hr,B2,_,U,_,U,a,l,t,k+1,z,n,lo,X,U,Z,t1,hn,M,B,λH2 i j=>?_⟩;obtain⟨WG,VD⟩:=i.ob;refine⟨_,U,a,WG,C,G,_,Y,2,[Ui,UG],_,U,VD,U,T.cl,L,D,hr.m,I,Qa,λp2 n2=>?_⟩;have d:=ag (o:=.tup [.str ";"]) n2;refine⟨a,l,t,k+2,z,";",p2,[";"],U,i.same d,t2,(.inr<|P5.of aa),by simp,λp r3 b3=>?_⟩;exact⟨_,U,q p r3<|((bR r).trans<|v.trans j).trans<|(bR d).trans b3⟩
def R5:ax [Um,UI,"least","most",Us] [Um,UI,"least","most"] (aj je):=cP zk
def Ag(F:Qj K "read_names" "read_names" je f fd)(T:uD P w K mg d C)(B:Bl mg):P7 P w K mg d ce 3 f fd [Um,UI,"least","most"] (qy C):=by
 have ZZ:=R5
 walk_at "o"
 ·obtain⟨a,l,r,k,me,wd,t,lo,v,rfl,hR,t0,tn,te,h1,h2,ed,q⟩:=h;refine⟨_,ae (aL<|br (pv 0)<|aV<|aw<|aV<|pv 1)
   (ae (bP 4 R5.nd<|aM bN)
   (ae (gk h_ (PW.pt<|fL (bY eR (aC aT (by rfl) B.len MG<|aV<|pv 4)<|pv 2)<|dU<|PW.pt<|bW (bY eR (aC aT (by rfl) B.len MG<|aV<|pv 4)<|pv 3)<|bG<|bY mP (aX<|pv 0) ah)
    (ai<|aL<|cx Mw My Mx bu (pv 4)<|aV<|aX<|pv 0))
   (ae (aL<|br (pv 0)<|aV<|aw<|aV ah)
   (ai<|ao<|aU bQ (by rfl) B.tuple cu<|aV<|pv 4)))),?_⟩
  obtain⟨f1,Oa,M1,F1,B1⟩:=T.need;obtain⟨f2,Wc,M2,F2,B2⟩:=T.nname;obtain⟨f3,VW,M3,F3,B3⟩:=T.look;obtain⟨dx,X⟩:=hR.ob;have sz:(1000:Nat)<=sizeLine:=by decide
  refine⟨_,U,a,dx,C,f1,_,Oa,2,[Ui,UG],_,U,X,U,T.cl,M1,F1,hr,B1,_,U,Qa,λp1 n1=>?_⟩;have s1:=ag (o:=.tup [.str wd]) n1;refine⟨a,l,r,k,me,wd,p1,[wd],U,hR.same s1,t0,(.inr<|P5.of aa),by simp,λj r1 b1=>?_⟩;have c1:Qc a H j:=(bR s1).trans b1;refine⟨Qa,λO nn=>?_⟩;have s2:=ag (o:=.lst []) nn;have e2:(aB j O<|.lst []) O=some (.lst<|am []):=aa;have r2:=r1.same s2;have c2:=c1.same s2;have nH:H O=none:=by
   by_cases hh:O=a
   ·subst hh;obtain⟨WS,VO⟩:=r1.ob;rw[VO]at nn;cases nn
   ·cases p:H O with
    |none=>rfl
    |some o=>
     have:=c1 _ _ p hh;rw[nn]at this;cases this
  have YB:O≠a:=by
   rintro rfl;rw[nH]at X;cases X
  have en:O≠l:=λz=>by
   have:=hR.tk;rw[<-z,nH]at this;cases this
  generalize aB j O (.lst ([]:VA))=H2 at*;refine⟨λm σ I=>∃i,i<=t.length/\m=t.length-i/\σ=[some<|.ref a,some<|.str wd,some<|.int lo,some<|.int v,some<|.ref O]/\Qs C I a l r (k+1+i) me/\Qc a H I/\I O=some (.lst<|am<|t.take i),⟨_,0,MR _,U,U,r2,c2,e2⟩,?_⟩;intro m σ H3 z;obtain⟨i,ec,rfl,rfl,r3,c3,D⟩:=z;have lt:(am<|t.take i).length=i:=by
   unfold am;rw[Me,Mp];lia
  obtain⟨X1,WE⟩:=r3.ob;by_cases Oh:i<t.length
  ·obtain⟨ei,et⟩:=tn i Oh;have es:t.take (i+1)=t.take i++[t[i]]:=by rw[MW,Mi Oh];rfl
   have er:t[i]≠(";":Str):=by
    intro z;obtain⟨_,_,_,hc⟩:=et;rw[z]at hc;exact absurd (hc 59 zk) zo
   by_cases ew:i<lo
   ·refine⟨_,U,O,_,U,.inl<|P8.of D,_,U,_,_,U,U,_,U,bx (b_<|by rw[lt];lia) ?_⟩;refine⟨λZ I=>∃L,L=i+1/\Z=[some<|.ref a,some<|.str wd,some<|.int lo,some<|.int v,some<|.ref O]/\Qs C I a l r (k+1+L) me/\Qc a H I/\I O=some (.lst<|am<|t.take L),λZ I⟨L,e',N,R,M,a4⟩=>⟨t.length-L,zo,L,zo,U,N,R,M,a4⟩,_,U,.inl ⟨U,_,P8.of D⟩,_,U,a,X1,C,f2,_,Wc,2,[Ui],_,U,WE,U,T.cl,M2,F2,hr,B2,a,l,r,k+1+i,me,t[i],U,r3,ei,et,λH4 Y G=>?_⟩;have e4:=G _ _ D YB;refine⟨O,_,_,U,U,e4,by rw[lt];lia,i+1,U,U,?_,?_,?_⟩
    ·refine⟨?_,?_,Y.le⟩
     ·obtain⟨Ye,WN⟩:=Y.ob;exact⟨Ye,by rw[al YB.symm];exact WN⟩
     ·rw[al en.symm];exact Y.tk
    ·intro b o e nb;by_cases YZ:b=O
     ·rw[YZ,nH]at e;cases e
     ·rw[al YZ];exact G _ _ (c3 _ _ e nb) nb
    ·rw[aa,es];unfold am;rw[Mq];rfl
   ·refine⟨_,U,O,_,U,.inl<|P8.of D,_,U,_,_,U,U,_,U,aY (c_<|by rw[lt];lia) ?_⟩;refine⟨_,U,O,_,U,.inl<|P8.of D,_,U,_,_,U,U,_,U,bx (b_<|by rw[lt];lia) ?_⟩;refine⟨_,U,a,X1,C,f3,_,VW,1,[Ui],_,U,WE,U,T.cl,M3,F3,hr.m,B3,a,l,r,k+1+i,me,t[i],U,r3,ei,U,_,U,bx (by simpa using er) ?_⟩;refine⟨λZ I=>∃L,L=i+1/\Z=[some<|.ref a,some<|.str wd,some<|.int lo,some<|.int v,some<|.ref O]/\Qs C I a l r (k+1+L) me/\Qc a H I/\I O=some (.lst<|am<|t.take L),λZ I⟨L,e',N,R,M,a4⟩=>⟨t.length-L,zo,L,zo,U,N,R,M,a4⟩,_,U,.inl ⟨U,_,P8.of D⟩,_,U,a,X1,C,f2,_,Wc,2,[Ui],_,U,WE,U,T.cl,M2,F2,hr,B2,a,l,r,k+1+i,me,t[i],U,r3,ei,et,λH4 Y G=>?_⟩;have e4:=G _ _ D YB;refine⟨O,_,_,U,U,e4,by rw[lt];lia,i+1,U,U,?_,?_,?_⟩
    ·refine⟨?_,?_,Y.le⟩
     ·obtain⟨Ye,WN⟩:=Y.ob;exact⟨Ye,by rw[al YB.symm];exact WN⟩
     ·rw[al en.symm];exact Y.tk
    ·intro b o e nb;by_cases YZ:b=O
     ·rw[YZ,nH]at e;cases e
     ·rw[al YZ];exact G _ _ (c3 _ _ e nb) nb
    ·rw[aa,es];unfold am;rw[Mq];rfl
  ·have ee:i=t.length:=by lia
   have ea:(tz r)[k+1+i]?=some ";":=by rw[ee];exact te
   have eh:am (t.take i)=am t:=by rw[ee,MD]
   by_cases el:i<v
   ·refine⟨_,U,O,_,U,.inl<|P8.of D,_,U,_,_,U,U,_,U,aY (c_<|by rw[lt];lia) ?_⟩;refine⟨_,U,O,_,U,.inl<|P8.of D,_,U,_,_,U,U,_,U,bx (b_<|by rw[lt];lia) ?_⟩;refine⟨_,U,a,X1,C,f3,_,VW,1,[Ui],_,U,WE,U,T.cl,M3,F3,hr.m,B3,a,l,r,k+1+i,me,";",U,r3,ea,U,_,U,aY (by simp) ?_⟩;refine⟨_,U,a,X1,C,f1,_,Oa,2,[Ui,UG],_,U,WE,U,T.cl,M1,F1,hr,B1,Qa,λp2 n2=>?_⟩;have s4:=ag (o:=.tup [.str ";"]) n2;refine⟨a,l,r,k+1+i,me,";",p2,[";"],U,r3.same s4,ea,(.inr<|P5.of aa),by simp,λH4 Y G=>?_⟩;have e4:=G _ _ (s4 _ _ D) YB;rw[eh]at e4;refine⟨_,U,O,am t,U,.inl ⟨P8.of e4,λp3 n3=>?_⟩⟩;have s5:=ag (o:=.tup (am t)) n3;have c4:Qc a H H4:=(c3.same s4).trans G;refine q p3 _ ?_ (c4.same s5) ?_ aa
    ·have:=Y.same s5;rw[ee]at this;have e9:k+1+t.length+1=k+2+t.length:=by lia
     rw[e9]at this;exact this
    ·by_cases J:p3=a
     ·subst J;obtain⟨Ye,WN⟩:=Y.ob;rw[WN]at n3;cases n3
     ·cases p:H p3 with
      |none=>rfl
      |some o=>
       have:=c4 _ _ p J;rw[n3]at this;cases this
   ·refine⟨_,U,O,_,U,.inl<|P8.of D,_,U,_,_,U,U,_,U,aY (c_<|by rw[lt];lia) ?_⟩;refine⟨_,U,O,_,U,.inl<|P8.of D,_,U,_,_,U,U,_,U,aY (c_<|by rw[lt];lia) ?_⟩;refine⟨_,U,a,X1,C,f1,_,Oa,2,[Ui,UG],_,U,WE,U,T.cl,M1,F1,hr,B1,Qa,λp2 n2=>?_⟩;have s4:=ag (o:=.tup [.str ";"]) n2;refine⟨a,l,r,k+1+i,me,";",p2,[";"],U,r3.same s4,ea,(.inr<|P5.of aa),by simp,λH4 Y G=>?_⟩;have e4:=G _ _ (s4 _ _ D) YB;rw[eh]at e4;refine⟨_,U,O,am t,U,.inl ⟨P8.of e4,λp3 n3=>?_⟩⟩;have s5:=ag (o:=.tup (am t)) n3;have c4:Qc a H H4:=(c3.same s4).trans G;refine q p3 _ ?_ (c4.same s5) ?_ aa
    ·have:=Y.same s5;rw[ee]at this;have e9:k+1+t.length+1=k+2+t.length:=by lia
     rw[e9]at this;exact this
    ·by_cases J:p3=a
     ·subst J;obtain⟨Ye,WN⟩:=Y.ob;rw[WN]at n3;cases n3
     ·cases p:H p3 with
      |none=>rfl
      |some o=>
       have:=c4 _ _ p J;rw[n3]at this;cases this
end
def jM:Vy:=(List.range 26).map (97+·)
def Dj:Str:="abcdefghijklmnopqrstuvwxyz"
def Fb:Dj=S jM:=by decide +kernel
def wZ(c:Nat)(h:97<=c/\c<=122):c∈jM:=by
 unfold jM;refine MQ.mpr ⟨c-97,Nn.mpr zo,zo⟩
structure Gk(K:ZF)(mg:Str->Option Vq)(aO:Vr)(tL tN:Tok):Prop where
 own:mg "OWN_WORDS"=some (.ref aO)
 sq:∀H,P5 K H aO (am Q0)
 lets:mg "LETTERS"=some (.str Dj tL)
 lng:mg "LONGEST_NAME"=some (.int 8 tN)
section
def Ah:ax [UU] [UU] (aj pj):=cP zk
def Gm:(["sign"]:Vx).Nodup:=by decide +kernel
def Dk(F:Qj K "is_name" "is_name" pj f j)(T:Bl m)(C:Gk K m aO tL tN):P7 P w K m d ce 1 f j [UU] Gj:=by
 have ZZ:=Ah
 walk_at "o"
 ·obtain⟨z,rfl,⟨Y,R,h8,M⟩,q⟩:=h;refine⟨_,ae (aP (PW.pt (fL (dW<|dq<|aC (gF (T:="str")) (by rfl) T.isinstance c8<|bj (pv 0)<|iZ (by rfl) T.str eP)
    (dU<|cy cC (pv 0) (bf (v:=.ref aO) U C.own U) U))) (ai<|ao gQ) ay)
   (ai<|ao (fX (mQ jD jD af (aC bX (by rfl) T.len MG<|aV<|pv 0)<|bf (v:=.int 8) U C.lng ⟨_,U⟩)
    (fb<|aC (ig U) (by rfl) T.all gw<|aV (gu (N':=["sign"]) (ix:=[none]) (sc0:=aj pj) (N:=[UU]) U zk (uQ<|pv 0)
     (λL p s H Z=>gZ (i:=0) Gm) (λ_ _ _ _ _=>eM) (λL p s H Z=>fO gp (pv 0) (bf (v:=.str Dj) U C.lets ⟨_,U⟩) U))))),?_⟩
  have J:z=S z.cps.toList:=z9 z;have zl:z.length=z.cps.toList.length:=by show z.cps.size=_;simp
  generalize B:z.cps.toList=l at*;subst J;rw[aQ]at R h8;have sz:(100000:Nat)<=sizeLine:=by decide
  refine⟨_,U,_,_,_,U,.str _,U,_,U,cD ?_⟩;refine⟨_,U,aO,am Q0,U,.inr<|C.sq H,U,cQ _,_,U,aY ?_ ?_⟩
  ·show ic (.str<|S l) (am Q0)=false;rw[dZ];exact Nc.mpr λe=>Y (MV.mp e)
  ·refine⟨_,U,S l,U,(by rw[aQ];lia),_,_,U,U,_,U,?_⟩;rw[aQ];refine bx (b_ zo) ⟨_,_,U,U,_,U,bx (b_ zo) ⟨_,U,l,U,?_⟩⟩;refine uR (λi t O=>t=(List.replicate i true).map V.bl/\P4 H O) ⟨U,P4.refl _⟩ (λi t O I⟨e,_⟩=>by rw[e,Me,Nu];lia) ?_ ?_
   ·rintro i t O I ⟨rfl,r⟩;refine⟨trivial,eO ?_⟩;refine⟨_,U,S [l[i]],_,U,U,?_⟩;rw[Fb,iD,b_<|wZ _<|M _<|MX I];refine Nx.mk I ⟨?_,r⟩;rw[List.replicate_succ',Mq];rfl
   ·rintro t O ⟨rfl,r⟩ D hD;refine⟨D,List.replicate l.length true,U,P8.of aa,?_⟩;have:=q _ (r.trans<|ag (o:=.lst ((List.replicate l.length true).map V.bl)) hD);have G:(List.replicate l.length true).all id=true:=by simp
    rw[G];exact this
end
def dg(n:Nat):Vy:=(Nat.toDigits 10 n).map Char.toNat
def sW(h:n<10):dg n=[48+n]:=by
 unfold dg;rw[Nat.toDigits_of_lt_base h];have:∀d:Nat,d<10->[Nat.digitChar d].map Char.toNat=[48+d]:=by decide
 exact this n h
def Ai(h:10<=n):dg n=dg (n / 10)++[48+n%10]:=by
 have q:n%10<10:=S6 n zd;have t:Nat.toDigits 10 (n / 10)++Nat.toDigits 10 (n%10)=Nat.toDigits 10 (10*(n / 10)+n%10):=Nat.toDigits_append_toDigits zd zo q;rw[Nat.div_add_mod]at t;rw[<-sW q];unfold dg;rw[<-t,Mq]
def nB(n:Nat):∀c∈dg n,48<=c/\c<=57:=by
 induction n using Nat.strongRecOn with
 |_ n z=>
  by_cases h:n<10
  ·rw[sW h];intro c q;rw[MJ.mp q];lia
  ·rw[Ai zo];intro c q;rcases MC.mp q with q|q
   ·exact z (n / 10) zo c q
   ·rw[MJ.mp q];lia
def ip(n:Nat):1<=(dg n).length/\∀k,1<=k->n<10^k->(dg n).length<=k:=by
 induction n using Nat.strongRecOn with
 |_ n D=>
  by_cases h:n<10
  ·rw[sW h];exact⟨by simp,λk O _=>by simpa using O⟩
  ·rw[Ai zo];obtain⟨a,b⟩:=D (n / 10) zo;refine⟨by rw[Md];simp,λk O q=>?_⟩;rw[Md];have I:2<=k:=by
    rcases(by lia:k=1\/2<=k)with rfl|z
    ·simp at q;lia
    ·exact z
   have:=b (k-1) zo (by
    have e:10^k=10^(k-1)*10:=by rw[<-NN];congr 1;lia
    rw[e]at q;exact Nat.div_lt_of_lt_mul (by rw[Nat.mul_comm];exact q))
   simp;lia
def Dl(n:Nat)(e:1<=n):(dg n)[0]?≠some 48:=by
 induction n using Nat.strongRecOn with
 |_ n q=>
  by_cases h:n<10
  ·rw[sW h];simp;lia
  ·rw[Ai zo];have z:=(ip<|n / 10).1;rw[Nk zo];exact q (n / 10) zo zo
def jm(n:Nat):(toString (n:Int):Str)=S (dg n):=by
 have:=PySem.W.KIN.signs_num n;have e:=z9 (toString (n:Int):Str);rw[e]
 congr 1
def IQ:Vy:=(List.range 10).map (48+·)
def Gn:Str:="0123456789"
def IU:Gn=S IQ:=by decide +kernel
def Do(c:Nat)(h:48<=c/\c<=57):c∈IQ:=MQ.mpr ⟨c-48,Nn.mpr zo,zo⟩
section
def sX:eD X (.type "int") (λo H Q=>∃n:Nat,o=[.str (toString (n:Int):Str)]/\n<1000000000/\Q (.int n) H):=by
 intro e s d H o i Q I r h;obtain⟨n,rfl,O,q⟩:=h;obtain⟨u,rfl,z⟩:=hZ r;obtain⟨t,rfl⟩:=z;exact PySem.W.KIN.call_num zo zo ⟨.int n,H,I.tok _,⟨_,U⟩,q⟩
end
section
def vG:ax [Vo] [Vo] (aj iE):=cP zk
def sY(F:Qj K "number_of" "number_of" iE f C)(T:Bl d)(hF:d "FIGURES"=some (.str Gn tF))(hM:d "MOST_FIGURES"=some (.int 9 tM)):P7 P w K d m ce 1 f C [Vo] qw:=by
 have ZZ:=vG
 walk_at "o"
 ·obtain⟨n,rfl,G,q⟩:=h;refine⟨_,ae (aP (PW.pt (fL (dW<|sh jD jD af (aC bX (by rfl) T.len MG<|aV<|pv 0)<|bf (v:=.int 9) U hM ⟨_,U⟩)
    (dU<|dW<|dq<|aC (ig U) (by rfl) T.all gw<|aV (gu (N':=["sign"]) (ix:=[none]) (sc0:=aj iE) (N:=[Vo]) U zk (uQ<|pv 0)
     (λZ p s H fp=>gZ (i:=0) Gm) (λ_ _ _ _ _=>eM) (λZ p s H fp=>fO gp (pv 0) (bf (v:=.str Gn) U hF ⟨_,U⟩) U))))) (ai<|ao gY) ay)
   (ae (aP (PW.pt<|bW (bY aR (fw kF (pv 0) af) ah)<|bG<|bY sf (aC bX (by rfl) T.len MG<|aV<|pv 0) af) (ai<|ao gY) ay)
   (ai<|ao<|aU sX (by rfl) T.int M0<|aV<|pv 0)),?_⟩
  have R:=jm n;obtain⟨l1,Y⟩:=ip n;have l9:=Y 9 zd zo;have sz:(100000:Nat)<=sizeLine:=by decide
  rw[R];refine⟨_,U,S<|dg n,U,(by rw[aQ];lia),_,_,U,U,_,U,?_⟩;rw[aQ];refine bx (b_ zo) ⟨_,_,U,U,_,U,?_⟩;rw[b_<|show((dg n).length:Int)<=9 by lia];refine cD ⟨_,U,dg n,U,?_⟩;refine uR (λi r O=>r=(List.replicate i true).map V.bl/\P4 H O) ⟨U,P4.refl _⟩ (λi r O L⟨e,_⟩=>by rw[e,Me,Nu];lia) ?_ ?_
  ·rintro i r O L ⟨rfl,t⟩;refine⟨trivial,eO ?_⟩;refine⟨_,U,S [(dg n)[i]],_,U,U,?_⟩;rw[IU,iD,b_<|Do _<|nB n _<|MX L];refine Nx.mk L ⟨?_,t⟩;rw[List.replicate_succ',Mq];rfl
  ·rintro r O ⟨rfl,t⟩ D hD;have J:=ag (o:=.lst ((List.replicate (dg n).length true).map V.bl)) hD;refine⟨D,List.replicate (dg n).length true,U,P8.of aa,?_⟩;have ea:(List.replicate (dg n).length true).all id=true:=by simp
   rw[ea];refine⟨_,U,cD ?_⟩;refine⟨_,U,S<|dg n,0,(dg n)[0],U,U,(by rw[aQ];lia),?_,U,_,U,?_⟩
   ·exact jL (i:=0) zo
   ·by_cases B:n=0
    ·subst B;have I:(dg 0)[0]=48:=by simp[sW (n:=0) zd]
     refine bx (b_<|by rw[I];decide +kernel) ?_;refine⟨_,U,S<|dg 0,U,(by rw[aQ];lia),_,_,U,U,_,U,aY zk ?_⟩;exact⟨_,U,0,by rw[jm],G,q _<|t.trans J⟩
    ·have M:=Dl n zo;refine aY ?_ (cD ?_)
     ·refine c_ λe=>M ?_;have e2:=V.str.inj e;have j:S [(dg n)[0]]=S [48]:=e2.trans zk;have e4:[(dg n)[0]]=[48]:=by
       have:=e_ (λz:Str=>z.cps.toList) j;simpa[S]using this
      rw[Mi zo];exact e_ some (List.cons.inj e4).1
     ·exact⟨_,U,n,by rw[jm],G,q _<|t.trans J⟩
end
end L3
namespace L3
open PySem L2 TK
structure Dp(K:ZF)(mg:Str->Option Vq)(aD:Vr)(tG tS:Tok):Prop where
 gaps:mg "GAPS"=some (.str " \n" tG)
 sing:mg "SINGLE_SIGNS"=some (.str "(){}[],;+-&|^<=" tS)
 doub:mg "DOUBLE_SIGNS"=some (.ref aD)
 sq:∀H,P5 K H aD [.str "<<",.str ">>"]
 len:mg "len"=none
def vs(e:List (Vy)):VA:=e.map λt=>V.str (S t)
inductive qz(e:VA)(H:Hp)(Q:VK)(t:XK):Prop
 |mk(l:Vy)(i:Nat):e=[.str<|S l,.int i]->i<l.length->l.length<=100000->Q (.str<|S<|(l.drop i).take<|kJ<|l.drop i) H->qz e H Q t
inductive Aj(e:VA)(H:Hp)(Q:VK)(t:XK):Prop
 |mk(l:Vy)(i:Nat):e=[.str<|S l,.int i]->i<l.length->l.length<=100000->Q (.str<|S<|(l.drop i).take<|run<|l.drop i) H->Aj e H Q t
inductive vI(t:VA)(H:Hp)(Q:VK)(o:XK):Prop
 |mk(l:Vy):t=[.str<|S l]->l.length<=100000->(∀(p:Vr)(e:Hp),H p=none->e p=some (.lst<|vs<|toks l)->P4 H e->Q (.ref p) e)->vI t H Q o
variable{i:Nat}
def w6{l:Vy}(h:i<l.length):iV l (some (i:Int)) (some<|(i:Int)+2)=(l.drop i).take 2:=by
 unfold iV;have e:((i:Int)+2)=((i+2:Nat):Int):=by lia
 rw[e,HT.sIx_nat,HT.sIx_nat,show min i l.length=i by lia];by_cases c:i+2<=l.length
 ·rw[show min (i+2) l.length-i=2 by lia]
 ·rw[Nd (by rw[MY];lia),Nd<|by rw[MY];lia]
def Go{l:Vy}{i j:Nat}(h:j<=l.length):iV l (some (i:Int)) (some (j:Int))=(l.drop i).take (j-i):=by
 unfold iV;rw[HT.sIx_nat,HT.sIx_nat,show min j l.length=j by lia];by_cases c:i<=l.length
 ·rw[show min i l.length=i by lia]
 ·rw[show min i l.length=l.length by lia,List.drop_length,List.drop_eq_nil_of_le zo];simp
def iG{l:Vy}(h:i<l.length):l.drop i=l[i]::l.drop (i+1):=MZ h
def Ak:(" \n":Str)=S [32,10]:=by decide +kernel
def Gp:("(){}[],;+-&|^<=":Str)=S [40,41,123,125,91,93,44,59,43,45,38,124,94,60,61]:=by decide +kernel
def KQ:("<<":Str)=S [60,60]:=by decide +kernel
def KR:(">>":Str)=S [62,62]:=by decide +kernel
def w8(c:Nat):decide (c∈[32,10])=gU c:=by
 rw[No,P_];unfold gU;simp
def Dq(c:Nat):decide (c∈[40,41,123,125,91,93,44,59,43,45,38,124,94,60,61])=dY c:=by
 rw[No,P_];unfold dY;rw[MV]
def Dr(t:Vy):ic (.str<|S t) [.str "<<",.str ">>"]=(decide (t=[60,60])||decide (t=[62,62])):=by
 unfold ic;rw[KQ,KR];show((S [60,60]==S t)||((S [62,62]==S t)||false))=_;have e:∀u:Vy,(S u==S t)=decide (t=u):=λu=>by
  rw[No,P_,S5,Rs];exact⟨λh=>h.symm,λh=>h.symm⟩
 rw[e,e,Bool.or_false]
section
def Gq:ax [US,"at"] [US,"at"] (aj z4):=cP zk
def Ds{f I:Vr}{D:Vw}{Y G:Tok}(F:Qj K "sign_at" "sign_at" z4 f D)(T:Dp K o I Y G):P7 P w K o t ce 1 f D [US,"at"] qz:=by
 have ZZ:=Gq
 walk_at "o"
 ·obtain⟨l,i,rfl,z,L,q⟩:=h;have sz:(100000:Nat)<=sizeLine:=by decide
  refine⟨_,ae (aP (cy cC (cI qe (pv 0) (cz<|pv 1)<|cz<|az bM (pv 1) af) (bf (v:=.ref I) U T.doub U) U) (ai<|ao<|cI qe (pv 0) (cz<|pv 1)<|cz<|az bM (pv 1) af) ay)
   (ae (aP (cy gp (fw kF (pv 0)<|pv 1) (bf (v:=.str "(){}[],;+-&|^<=") U T.sing ⟨_,U⟩) U) (ai<|ao<|fw kF (pv 0)<|pv 1) ay)
   (ai<|ao ah)),?_⟩
  refine⟨_,U,_,U,_,U,_,U,_,_,U,U,_,U,l,U,L,?_⟩;rw[w6 z];refine⟨I,_,U,.inr<|T.sq H,U,U,_,U,?_⟩;show if ic (.str<|S<|(l.drop i).take 2) [.str "<<",.str ">>"]=true then _ else _;have two:kJ (l.drop i)=if ic (.str<|S<|(l.drop i).take 2) [.str "<<",.str ">>"]=true then 2 else if dY l[i]=true then 1 else 0:=by
   rw[Dr,iG z];cases m:l.drop (i+1)with
   |nil=>rw[fQ];simp
   |cons d r=>
    rw[ff];simp
  by_cases c:ic (.str<|S<|(l.drop i).take 2) [.str "<<",.str ">>"]=true
  ·rw[g_ c]at two;refine bx c ?_;refine⟨_,U,_,U,_,U,_,U,_,_,U,U,_,U,l,U,L,?_⟩;rw[w6 z];rw[two]at q;exact q
  ·rw[f_ c]at two;refine aY (by simpa using c) ?_;refine⟨_,U,_,U,_,_,l[i],U,U,(by rw[aQ];lia),jL z,_,_,U,U,_,U,?_⟩;rw[Gp];have e:=iD l[i] [40,41,123,125,91,93,44,59,43,45,38,124,94,60,61];rw[Dq]at e;by_cases O:dY l[i]=true
   ·rw[g_ O]at two;refine bx (e.trans O) ?_;refine⟨_,U,_,U,_,_,l[i],U,U,(by rw[aQ];lia),jL z,?_⟩;rw[two,iG z]at q;exact q
   ·rw[f_ O]at two;refine aY (e.trans<|by simpa using O) ?_;rw[two]at q;exact q
end
section
def Sq:ax [US,"at","behind"] [US,"at"] (aj Gd):=cP zk
def take_nil{l:Vy}{n:Nat}(h:n<=l.length):l.take n=[]↔n=0:=by
 constructor
 ·intro e;have:=e_ List.length e;rw[Mp,Mv]at this;lia
 ·intro e;rw[e,Ua]
variable{tG tS:Tok}{o:Vw}{f aD:Vr}
def Gr(F:Qj K "run_at" "run_at" Gd f o)(T:Dp K p aD tG tS)(SG:Fn P w K p t "sign_at" 1 [US,"at"] qz):P7 P w K p t ce 2 f o [US,"at"] Aj:=by
 have ZZ:=Sq
 walk_at "o"
 ·obtain⟨l,i,rfl,r,d,q⟩:=h;have sz:(100000:Nat)<=sizeLine:=by decide
  have sl:(S l).length<=sizeLine:=by rw[aQ];lia
  refine⟨_,ae (bP 2 Sq.nd<|pv 1)
   (ae (gk h_ (PW.pt (bW (bY eR (pv 2)<|aC bX (by rfl) T.len MG<|aV<|pv 0)
     (bW (cy pX (fw kF (pv 0)<|pv 2) (bf (v:=.str " \n") U T.gaps ⟨_,U⟩) U)<|bG<|bY aR (ap SG hr U<|bj (pv 0)<|pv 2) ah)))
    (ai<|uH (i:=2) Sq.nd U (Or.inl U) af uI))
   (ai<|ao<|cI qe (pv 0) (cz<|pv 1)<|cz<|pv 2)),?_⟩
  refine⟨_,U,λm j I=>∃k:Nat,j=[some<|.str<|S l,some<|.int i,some<|.int (i+k:Nat)]/\m=l.length-(i+k)/\i+k<=l.length/\run (l.drop i)=k+run (l.drop<|i+k)/\I=H,
   ⟨_,0,U,U,zo,by rw[Nat.add_zero,Nat.zero_add],U⟩,?_⟩
  intro m j I z;obtain⟨k,rfl,rfl,N,O,rfl⟩:=z;have Y:run (l.drop<|i+k)=0->Ic (LA (λx lo r H Q=>∃l,x=.str (S l)/\l.length<=100000/\Q (.str<|S<|iV l lo r) H) (kB 0) (zC<|kB 1)<|zC<|kB 2) {nx:=λ_ I=>Q .non I,rt:=Q} [some<|.str<|S l,some<|.int i,some<|.int (i+k:Nat)] I:=λe=>by
   refine⟨_,U,_,U,_,U,_,U,_,U,l,U,d,?_⟩;rw[Go N,show i+k-i=k by lia];rw[O,e,Nat.add_zero]at q;exact q
  refine⟨_,U,_,U,S l,U,sl,_,_,U,U,_,U,?_⟩;by_cases c:i+k<l.length
  ·refine bx (b_<|by rw[aQ];lia) ?_;refine⟨_,U,_,U,_,_,l[i+k],U,U,sl,jL c,_,_,U,U,_,U,?_⟩;rw[Ak];have e:=iD l[i+k] [32,10];rw[w8]at e;have Z:(!(!(Builtin.Str.occurrences (S [32,10]) (S [l[i+k]]) 0 (S [32,10]).length 1).isEmpty))=!gU l[i+k]:=by rw[e]
   have G:run (l.drop<|i+k)=if(gU l[i+k]||kJ (l.drop<|i+k) != 0)=true then 0 else 1+run (l.drop<|i+k+1):=by
    rw[iG c,cJ]
   cases g:gU l[i+k]with
   |true=>
    refine aY (Z.trans<|by rw[g];rfl) (cD ?_);exact Y (by rw[G,g];rfl)
   |false=>
    refine bx (Z.trans<|by rw[g];rfl) ?_;refine⟨_,U,_,U,l,i+k,U,c,d,U,_,U,?_⟩;rw[IL];by_cases L:kJ (l.drop<|i+k)=0
    ·refine bx (b_<|by rw[L];rfl) ?_;refine⟨λD J=>D=[some<|.str<|S l,some<|.int i,some<|.int (i+(k+1):Nat)]/\J=I,λD J⟨e1,e2⟩=>⟨l.length-(i+(k+1)),zo,k+1,e1,U,zo,?_,e2⟩,?_⟩
     ·rw[O,G,g,L];show k+(1+run (l.drop<|i+k+1))=_;rw[Nat.add_assoc i k 1];lia
     ·refine⟨_,U,_,_,U,U,?_,U⟩;show [some<|V.str<|S l,some<|V.int i,some<|V.int<|((i+k:Nat):Int)+1]=_;rw[show(((i+k:Nat):Int)+1)=((i+(k+1):Nat):Int)by lia]
    ·refine aY (c_ ?_) ?_
     ·intro z;injection z with z';have:=(take_nil<|qc<|l.drop<|i+k).mp (Rs.mp z');exact L this
     ·exact Y (by rw[G,g];simp[L])
  ·refine aY (c_<|by rw[aQ];lia) (cD ?_);have:l.drop (i+k)=[]:=List.drop_eq_nil_of_le zo;exact Y (by rw[this];rfl)
def Q5:ax [US,UM,"at",Vo] [US] (aj qk):=cP zk
def Gu(a b:List (Vy)):vs (a++b)=vs a++vs b:=Mq
def Gv(a:List (Vy)):(vs a).length=a.length:=Me _
def Du(F:Qj K "tokens_of" "tokens_of" qk f o)(T:Dp K j aD tG tS)(SG:Fn P w K j r "sign_at" 1 [US,"at"] qz)(RN:Fn P w K j r "run_at" 2 [US,"at"] Aj):
  P7 P w K j r ce 3 f o [US] vI:=by
 have ZZ:=Q5
 walk_at "o"
 ·obtain⟨l,rfl,M,q⟩:=h;have sz:(100000:Nat)<sizeLine:=by decide
  have sl:(S l).length<=sizeLine:=by rw[aQ];lia
  refine⟨_,ae (bP 1 Q5.nd<|aM bN)
   (ae (bP 2 Q5.nd af)
   (ae (gk h_ (bY eR (pv 2)<|aC bX (by rfl) T.len MG<|aV<|pv 0)
    (ai (aP (cy gp (fw kF (pv 0)<|pv 2) (bf (v:=.str " \n") U T.gaps ⟨_,U⟩) U) (ai<|uH (i:=2) Q5.nd U (Or.inl U) af uI)
     (ae (bP 3 Q5.nd<|F7 (ap SG hr.m U<|bj (pv 0)<|pv 2)<|fb<|ap RN hr U<|bj (pv 0)<|pv 2)
     (ae (aL<|cx Mw My Mx bu (pv 1)<|aV<|pv 3)
     (ai<|uH (i:=2) Q5.nd U (Or.inl U) (aC bX (by rfl) T.len MG<|aV<|pv 3) uI))))))
   (ai<|ao<|pv 1))),?_⟩
  refine⟨Qa,λp Z=>?_⟩;refine⟨λm B I=>∃(k:Nat)(d:List (Vy))(v:Option V),B=[some<|.str<|S l,some<|.ref p,some<|.int k,v]/\m=l.length-k/\k<=l.length/\I p=some (.lst<|L3.vs d)/\P4 H I/\d++toks (l.drop k)=toks l/\d.length<=k,
   ⟨_,0,[],none,U,U,zo,aa,ag Z,U,Ml _⟩,?_⟩
  intro m B I z;obtain⟨k,d,v,rfl,rfl,hk,g,R,e,hl⟩:=z;refine⟨_,U,_,U,S l,U,sl,_,_,U,U,_,U,?_⟩;by_cases c:k<l.length
  ·refine bx (b_<|by rw[aQ];lia) ?_;refine⟨λL G=>∃(O:Nat)(D:List (Vy))(C:Option V),L=[some<|.str<|S l,some<|.ref p,some<|.int O,C]/\k<O/\O<=l.length/\G p=some (.lst<|L3.vs D)/\P4 H G/\D++toks (l.drop O)=toks l/\D.length<=O,
    λL G⟨O,D,C,e1,e2,X,e4,e5,e6,e7⟩=>⟨l.length-O,zo,O,D,C,e1,U,X,e4,e5,e6,e7⟩,?_⟩
   refine yu (t:=Ie _ _ _) λD1 N1=>?_;refine⟨_,U,_,U,_,_,l[k],U,U,sl,jL c,_,_,U,U,_,U,?_⟩;rw[Ak];have J:=iD l[k] [32,10];rw[w8]at J;cases gg:gU l[k]with
   |true=>
    refine bx (J.trans gg) ?_;refine⟨_,U,_,_,U,U,?_⟩;refine N1 _ _ ⟨k+1,d,v,?_,zo,c,g,R,?_,zo⟩
    ·show [some<|V.str<|S l,some<|V.ref p,some<|V.int<|(k:Int)+1,v]=_;rw[show((k:Int)+1)=((k+1:Nat):Int)by lia]
    ·rw[<-e,iG c,mX gg]
   |false=>
    refine aY (J.trans gg) ?_;have dl:(l.drop k).length=l.length-k:=MY;have ol:=F6 (l.drop k);have op:0<one (l.drop k):=by rw[iG c];exact lY gg
    have tk:d++[(l.drop k).take<|one<|l.drop k]++toks (l.drop<|k+one (l.drop k))=toks l:=by
     rw[<-e,MS,show l.drop (k+one (l.drop k))=(l.drop k).drop (one<|l.drop k)by rw[List.drop_drop]]
     congr 1
     rw[iG c,sy gg];rfl
    have tl:((l.drop k).take<|one<|l.drop k).length=one (l.drop k):=by rw[Mp];lia
    have tz:((l.drop k).take<|kJ<|l.drop k).length<=100000:=by rw[Mp];lia
    refine put λD2 N=>?_;have V1:D2.nx [some<|.str<|S l,some<|.ref p,some<|.int k,some<|.str<|S<|(l.drop k).take<|one<|l.drop k] I:=by
     refine N _ _ ?_;refine⟨_,U,.inl ⟨U,_,P8.of g⟩,_,U,p,_,_,U,U,g,(by rw[Gv];lia),_,U,_,U,S<|(l.drop k).take<|one<|l.drop k,U,(by rw[aQ];lia),_,_,U,U,?_⟩;refine N1 _ _ ⟨k+one (l.drop k),d++[(l.drop k).take<|one<|l.drop k],some<|.str<|S<|(l.drop k).take<|one<|l.drop k,?_,zo,zo,?_,c7 Z R,tk,by rw[Md];simp;lia⟩
     ·show [some<|V.str<|S l,some<|V.ref p,some<|V.int<|(k:Int)+((S<|(l.drop k).take<|one<|l.drop k).length:Int),some<|V.str<|S<|(l.drop k).take<|one<|l.drop k]=_;rw[aQ,tl,show((k:Int)+(one (l.drop k):Int))=((k+one (l.drop k):Nat):Int)by lia]
     ·rw[aa,Gu];rfl
    refine⟨_,U,_,U,l,k,U,c,M,_,U,tz,?_⟩;by_cases Y:kJ (l.drop k)=0
    ·rw[g_<|(take_nil<|qc _).mpr Y];refine⟨_,U,_,U,l,k,U,c,M,?_⟩;rw[show run (l.drop k)=one (l.drop k)from(g_ Y).symm];exact V1
    ·rw[f_ λz=>Y<|(take_nil<|qc _).mp z];rw[show kJ (l.drop k)=one (l.drop k)from(f_ Y).symm];exact V1
  ·refine aY (c_<|by rw[aQ];lia) ?_;have:k=l.length:=by lia
   subst this;rw[List.drop_length,sx,MM]at e;subst e;exact⟨_,U,q p I Z g R⟩
end
end L3
namespace L3
open PySem L2
def Dv(l:Vy):Bool:=!Q0.contains (S l)&&(decide (1<=l.length)&&(decide (l.length<=8)&&l.all λc=>decide (c∈jM)))
inductive Al(vs:VA)(H:Hp)(Q:VK)(t:XK):Prop
 |mk(l:Vy):vs=[.str<|S l]->l.length<=1000->(∀e,P4 H e->Q (.bl<|Dv l) e)->Al vs H Q t
section
def Am(F:Qj K "is_name" "is_name" pj f B)(T:Bl R)(C:Gk K R aO tL tN):P7 P w K R j ce 1 f B [UU] Al:=by
 have ZZ:=Ah
 walk_at "o"
 ·obtain⟨l,rfl,X,q⟩:=h;refine⟨_,ae (aP (PW.pt (fL (dW<|dq<|aC (gF (T:="str")) (by rfl) T.isinstance c8<|bj (pv 0)<|iZ (by rfl) T.str eP)
    (dU<|cy cC (pv 0) (bf (v:=.ref aO) U C.own U) U))) (ai<|ao gQ) ay)
   (ai<|ao (fX (mQ jD jD af (aC bX (by rfl) T.len MG<|aV<|pv 0)<|bf (v:=.int 8) U C.lng ⟨_,U⟩)
    (fb<|aC (ig U) (by rfl) T.all gw<|aV (gu (N':=["sign"]) (ix:=[none]) (sc0:=aj pj) (N:=[UU]) U zk (uQ<|pv 0)
     (λJ M s H fp=>gZ (i:=0) Gm) (λ_ _ _ _ _=>eM) (λJ M s H fp=>fO gp (pv 0) (bf (v:=.str Dj) U C.lets ⟨_,U⟩) U))))),?_⟩
  have sz:(100000:Nat)<=sizeLine:=by decide
  refine⟨_,U,_,_,_,U,.str _,U,_,U,cD ?_⟩;have L:ic (.str<|S l) (am Q0)=Q0.contains (S l):=dZ _ _;refine⟨_,U,aO,am Q0,U,.inr<|C.sq H,U,cQ _,_,U,bE (λh=>?_) λh=>?_⟩
  ·have r:Q0.contains (S l)=true:=by rw[<-L];exact h
   have e:Dv l=false:=by unfold Dv;rw[r];rfl
   have:=q H (P4.refl _);rw[e]at this;exact this
  ·have r:Q0.contains (S l)=false:=by rw[<-L];exact Nc.mpr h
   have e:Dv l=(decide (1<=l.length)&&(decide (l.length<=8)&&l.all λc=>decide (c∈jM))):=by unfold Dv;rw[r];rfl
   rw[e]at q;refine⟨_,U,S l,U,(by rw[aQ];lia),_,_,U,U,_,U,?_⟩;rw[aQ];refine bE (λd=>?_) (λd=>?_)
   ·have O:1<=l.length:=by have:=i_ d;lia
    refine⟨_,_,U,U,_,U,bE (λm=>?_) λm=>?_⟩
    ·have I:l.length<=8:=by have:=i_ m;lia
     refine⟨_,U,l,U,?_⟩;refine uR (λi t Y=>t=((l.take i).map λc=>decide (c∈jM)).map V.bl/\P4 H Y) ⟨U,P4.refl _⟩ (λi t Y G⟨e,_⟩=>by rw[e,Me,Me,Mp];lia) ?_ ?_
     ·rintro i t Y G ⟨rfl,p⟩;refine⟨trivial,eO ?_⟩;refine⟨_,U,S [l[i]],_,U,U,?_⟩;rw[Fb,iD];refine Nx.mk G ⟨?_,p⟩;rw[MW,Mi G,Mq,Mq];rfl
     ·rintro t Y ⟨rfl,p⟩ D hD;rw[MD];refine⟨D,l.map λc=>decide (c∈jM),U,P8.of aa,?_⟩;have:=q _ (p.trans<|ag (o:=.lst ((l.map λc=>decide (c∈jM)).map V.bl)) hD);rw[b_ O,b_ I]at this;have Z:(l.map λc=>decide (c∈jM)).all id=l.all λc=>decide (c∈jM):=by rw[N6];rfl
      rw[Z];exact this
    ·have I:¬l.length<=8:=λz=>m (b_ zo);have:=q H (P4.refl _);rw[b_ O,c_ I]at this;exact this
   ·have O:¬1<=l.length:=λz=>d (b_ zo);have:=q H (P4.refl _);rw[c_ O]at this;exact⟨_,U,cD this⟩
end
def Gw(h:Qh z):Dv z.cps.toList=true:=by
 obtain⟨O,t,o,I⟩:=h;have q:=z9 z;have L:z.length=z.cps.toList.length:=by show z.cps.size=_;simp
 unfold Dv;rw[<-q,Nc.mpr λe=>O<|MV.mp e,b_ zo,b_ zo];have:(z.cps.toList.all λc=>decide (c∈jM))=true:=MT.mpr λc D=>b_ (wZ _<|I c D);rw[this];rfl
def IV(n:Nat):Dv (dg n)=false:=by
 unfold Dv;have z:=(ip n).1;have:(dg n).all (λc=>decide (c∈jM))=false:=by
  rw[List.all_eq_false];cases e:dg n with
  |nil=>rw[e]at z;simp at z
  |cons c r=>
   refine⟨c,Mf,?_⟩;have q:=nB n c (by rw[e];exact Mf);have O:∀c,48<=c->c<=57->¬c∈jM:=by
    intro c t o I;have:∀x∈jM,97<=x:=by decide
    have:=this c I;lia
   simp[O c q.1 q.2]
 rw[this];simp
def At(e:Vx)(k:Nat)(l:Vx):Prop:=∀(i:Nat)(z:Str),l[i]?=some z->(tz e)[k+i]?=some z
def At.hd(h:At e k (x::l)):(tz e)[k]?=some x:=h 0 x rfl
def At.tl(h:At t k (x::l)):At t (k+1) l:=λi z e=>by
 have:=h (i+1) z (by simpa using e);rw[show k+(i+1)=k+1+i by lia]at this;exact this
def At.l(h:At t k (a++b)):At t k a:=λi z e=>h i z (by rw[Nk (Mc.mp e).1];exact e)
def At.r(h:At t k (a++b)):At t (k+a.length) b:=λi z e=>by
 have:=h (a.length+i) z (by rw[Nj zo,show a.length+i-a.length=i by lia];exact e);rw[show k+(a.length+i)=k+a.length+i by lia]at this;exact this
inductive Ex where
 |num (n:Nat)
 |nm (z:Str)
 |cell (e:Ex)
 |two (o:Str) (x y:Ex)
def dG:Vx:=[("+":Str),("-":Str),("&":Str),("|":Str),("^":Str),("<<":Str),(">>":Str),("<":Str),("=":Str)]
def dj:Ex->Vx
 |.num n=>[(toString (n:Int):Str)]
 |.nm z=>[z]
 |.cell e=>("[":Str)::(dj e++[("]":Str)])
 |.two o x y=>("(":Str)::(dj x++o::(dj y++[(")":Str)]))
def Rr(H:Hp):Ex->V->Prop
 |.num n,v=>∃p,v=.ref p/\H p=some (.tup [.str ("number":Str),.int (n:Nat)])
 |.nm z,v=>∃p,v=.ref p/\H p=some (.tup [.str ("name":Str),.str z])
 |.cell e,v=>∃p u,v=.ref p/\H p=some (.tup [.str ("cell":Str),u])/\Rr H e u
 |.two o x y,v=>∃p u t,v=.ref p/\H p=some (.tup [.str o,u,t])/\Rr H x u/\Rr H y t
def Rr.kt(k:Qi H o):∀{e:Ex}{v:V},Rr H e v->Rr o e v
 |.num _,_,⟨p,a,b⟩=>⟨p,a,k _ _ b⟩
 |.nm _,_,⟨p,a,b⟩=>⟨p,a,k _ _ b⟩
 |.cell _,_,⟨p,u,a,b,c⟩=>⟨p,u,a,k _ _ b,Rr.kt k c⟩
 |.two _ _ _,_,⟨p,u,t,a,b,c,d⟩=>⟨p,u,t,a,k _ _ b,Rr.kt k c,Rr.kt k d⟩
def c9(w:Nat):Nat->Ex->Prop
 |_,.num n=>n<2^w
 |_,.nm z=>Qh z
 |0,.cell _=>False
 |m+1,.cell e=>c9 w m e
 |0,.two _ _ _=>False
 |m+1,.two o x y=>o∈dG/\c9 w m x/\c9 w m y
inductive Gs where
 |cell (a e:Ex)
 |nm (z:Str) (e:Ex)
def jN:Gs->Vx
 |.cell a e=>("[":Str)::(dj a++("]":Str)::("=":Str)::(dj e++[(";":Str)]))
 |.nm z e=>z::("=":Str)::(dj e++[(";":Str)])
def Ro(H:Hp)(g:Gs)(v:V):Prop:=match g with
 |.cell a e=>∃p u t,v=.ref p/\H p=some (.tup [.str ("cell":Str),u,t])/\Rr H a u/\Rr H e t
 |.nm z e=>∃p t,v=.ref p/\H p=some (.tup [.str ("name":Str),.str z,t])/\Rr H e t
def Ro.kt(k:Qi H e):∀{g:Gs}{v:V},Ro H g v->Ro e g v
 |.cell _ _,_,⟨p,u,t,a,b,c,d⟩=>⟨p,u,t,a,k _ _ b,c.kt k,d.kt k⟩
 |.nm _ _,_,⟨p,t,a,b,c⟩=>⟨p,t,a,k _ _ b,c.kt k⟩
def Gs.isCell:Gs->Bool
 |.cell _ _=>true
 |.nm _ _=>false
def kZ(w:Nat):Gs->Prop
 |.cell a e=>c9 w 3 a/\c9 w 3 e
 |.nm z e=>Qh z/\c9 w 3 e
inductive En where
 |w0 (s:Str)
 |w1 (s z:Str)
def gX:En->Vx
 |.w0 s=>[s]
 |.w1 s z=>[s,z]
inductive SM(H:Hp)(e:En)(v:V):Prop
 |mk(p:_):v=.ref p->H p=some (.tup<|(gX e).map V.str)->SM H e v
def qA:En->Prop
 |.w0 s=>s∈([(UJ:Str),(UN:Str),(UO:Str)]:Vx)
 |.w1 s z=>s∈([(U4:Str),(Uz:Str),(Ut:Str)]:Vx)/\Qh z/\(s=(Ut:Str)->z∉([(Vg:Str),(Vh:Str)]:Vx))
inductive Bd where
 |leaf (sets:List Gs) (en:En)
 |ite (top:Bool) (z:Str) (y n:Bd)
def bS:List Gs->Vx
 |[]=>[]
 |g::r=>("set":Str)::(jN g++bS r)
def dz:Bd->Vx
 |.leaf s e=>("{":Str)::(bS s++(gX e++[("}":Str)]))
 |.ite t z y n=>("{":Str)::(Vf:Str)::((if t then [(UW:Str),z]else [z])++(dz y++(Vb:Str)::(dz n++[("}":Str)])))
inductive Rj(H:Hp)(t:Bool)(z:Str)(v:V):Prop
 |mk(p:_):v=.ref p->H p=some (.tup [.str<|if t then(UW:Str)else(Vf:Str),.str z])->Rj H t z v
def Se(H:Hp):Bd->V->Prop
 |.leaf s e,v=>∃p q o u,v=.ref p/\H p=some (.tup [.str (Vk:Str),.ref q,u])/\H q=some (.tup o)/\Paired (λv g=>Ro H g v) o s/\SM H e u
 |.ite t z y n,v=>∃p u a b,v=.ref p/\H p=some (.tup [.str (Vf:Str),u,a,b])/\Rj H t z u/\Se H y a/\Se H n b
def fE(w:Nat):Nat->Bd->Prop
 |_,.leaf s e=>s.length<=4/\(∀g∈s,kZ w g)/\(∀i j:Nat,∀g h,s[i]?=some g->s[j]?=some h->g.isCell=true->h.isCell=true->i=j)/\qA e
 |0,.ite _ _ _ _=>False
 |m+1,.ite _ z y n=>Qh z/\fE w m y/\fE w m n
inductive Ed where
 |num (n:Nat)
 |fld (j:Nat)
 |pl (b:Bool) (n:Nat)
 |mk(b:Bool)(n:Nat)
 |cell (e:Ed)
 |two (o:Str) (x y:Ed)
inductive Sd where
 |cell (a e:Ed)
 |pl (b:Bool) (n:Nat) (e:Ed)
 |mk(b:Bool)(n:Nat)(e:Ed)
inductive Ee where
 |w0 (s:Str)
 |fault (z:Str)
 |go (s:Str) (j:Nat)
inductive Tt where
 |top (b:Bool) (n:Nat)
 |pl (b:Bool) (n:Nat)
 |mk(b:Bool)(n:Nat)
inductive Dd where
 |leaf (s:List Sd) (e:Ee)
 |ite (t:Tt) (y n:Dd)
def li:Sp:=λ_ _ _ _=>False
def dB:P7 P w K o e ce k f t i li:=⟨λ_ _ _ _ h=>h.elim,λ_ _ _ _ _ _ _ _ _ _ _ _ _ h=>h.elim⟩
inductive nC(C:Vr)(m:Nat)(vs:VA)(H:Hp)(Q:VK)(i:XK):Prop
 |mk(a l o k me e:_)(w b:Nat):vs=[.ref a,.int w,.int b]->b+m=3->w<=24->Qs C H a l o k me->At o k (dj e)->c9 w m e->(∀v t,Qs C t a l o (k+(dj e).length) me->Qc a H t->Rr t e v->Q v t)->nC C m vs H Q i
inductive sZ(C:Vr)(m:Nat)(vs:VA)(H:Hp)(Q:VK):Prop
 |mk(a l o k me e:_)(w b:Nat):vs=[.ref a,.int w,.int b]->b+m=3->w<=24->Qs C H a l o k me->At o k (dj<|.cell e)->c9 w m e->(∀v t,Qs C t a l o (k+(dj<|.cell e).length) me->Qc a H t->Rr t (.cell e) v->Q v t)->sZ C m vs H Q
def qB(C:Vr):Nat->Sp
 |0=>li
 |m+1=>λvs H Q _=>sZ C m vs H Q
inductive xb(C:Vr)(m:Nat)(vs:VA)(H:Hp)(Q:VK):Prop
 |mk(a l t k me o x y:_)(w b:Nat):vs=[.ref a,.int w,.int b]->b+m=3->w<=24->Qs C H a l t k me->At t k (dj<|.two o x y)->o∈dG->c9 w m x->c9 w m y->(∀v e,Qs C e a l t (k+(dj<|.two o x y).length) me->Qc a H e->Rr e (.two o x y) v->Q v e)->xb C m vs H Q
def vJ(C:Vr):Nat->Sp
 |0=>li
 |m+1=>λvs H Q _=>xb C m vs H Q
structure ZE(mg:Str->Option Vq)(t5:Tok):Prop where
 mb:mg "MOST_BRACKETS"=some (.int 3 t5)
def Fc:Sp:=λvs H Q _=>vs=[]/\∀p,H p=none->Q (.ref p) (aB H p<|.lst<|am dG)
def Qc.kt(b:Qc a H t)(h:H a=some (.ins C o i)):Qi H t:=λc r e=>b _ _ e (by
 rintro rfl;rw[h]at e;cases e)
def Dw:Ex->Str
 |.num n=>(toString (n:Int):Str)
 |.nm z=>z
 |.cell _=>"["
 |.two _ _ _=>"("
def Gx:∀{e:Ex},At t k (dj e)->(tz t)[k]?=some (Dw e)
 |.num _,h=>h.hd
 |.nm _,h=>h.hd
 |.cell _,h=>h.hd
 |.two _ _ _,h=>h.hd
def Fd{n:Nat}{t:Vy}(h:∀c∈t,c<48\/57<c):(toString (n:Int):Str)≠S t:=by
 rw[jm];intro e;have O:dg n=t:=e_ (λz:Str=>z.cps.toList) e;have q:=(ip n).1;cases ed:dg n with
 |nil=>rw[ed]at q;simp at q
 |cons c r=>
  have o:=nB n c (by rw[ed];exact Mf);have i:=h c (by rw[<-O,ed];exact Mf);lia
def qC(O:Qh z)(h:∀c∈t,c<97\/122<c):z≠S t:=by
 intro e;have o:=O.2.1;have q:z.cps.toList=t:=e_ (λz:Str=>z.cps.toList) e;have I:z.length=z.cps.toList.length:=by show z.cps.size=_;simp
 cases et:t with
 |nil=>rw[q,et]at I;simp at I;lia
 |cons c r=>
  have D:c∈z.cps.toList:=by rw[q,et];exact Mf
  have L:=O.2.2.2 c D;have Y:=h c (by rw[et];exact Mf);lia
def Gy:("[":Str)=S [91]:=by decide +kernel
def IW:("(":Str)=S [40]:=by decide +kernel
def An:∀{e:Ex},c9 w m e->(∀x,e≠.cell x)->Dw e≠"["
 |.num n,_,_=>by rw[Gy];exact Fd (by simp)
 |.nm z,h,_=>by
  have q:Qh z:=by cases m<;>exact h
  rw[Gy];exact qC q (by simp)
 |.cell x,_,h=>absurd U (h x)
 |.two _ _ _,_,_=>by show("(":Str)≠"[";decide +kernel
def Ao:∀{e:Ex},c9 w m e->(∀o x y,e≠.two o x y)->Dw e≠"("
 |.num n,_,_=>by rw[IW];exact Fd (by simp)
 |.nm z,h,_=>by
  have q:Qh z:=by cases m<;>exact h
  rw[IW];exact qC q (by simp)
 |.two o x y,_,h=>absurd U (h o x y)
 |.cell _,_,_=>by show("[":Str)≠"(";decide +kernel
section
def IX:ax [] [] (aj Gc):=cP zk
def Gz(F:Qj K "ops_told" "ops_told" Gc f r)(T:Bl i)(O:i "OPS"=some (.ref aO))(d:lX w K aO t)(z:t.map (·.1)=dG)(lo:(aO==sysModules)=false):P7 P w K i o ce 1 f r [] Fc:=by
 have ZZ:=IX
 walk_at "o"
 ·obtain⟨rfl,q⟩:=h;refine⟨_,ai (ao<|aU (oO U) (by rfl) T.list fB<|aV<|bf (v:=.ref aO) U O U),?_⟩;have L:t.length=9:=by
   have:=e_ List.length z;rw[Me]at this;exact this
  refine⟨aO,t,U,d,by rw[z];decide +kernel,lo,zo,λp I=>?_⟩;have e:(t.map λD=>V.str D.1)=am dG:=by
   unfold am;rw[<-z,M8];rfl
  rw[e];exact q p I
def R8:ax [Um,Uj,UF,"address"] [Um,Uj,UF] (aj kQ):=cP zk
def nE(F:Qj K "read_cell" "read_cell" kQ f fd)(T:uD P w K d t C)(EX:Fn P w K d t "read_expression" n [Um,Uj,UF] (nC C m))(hn:3<=n):P7 P w K d t ce (n+1) f fd [Um,Uj,UF] (qB C<|m+1):=by
 have ZZ:=R8
 walk_at "o"
 ·obtain⟨a,l,i,k,O,e,w,b,rfl,hb,hw,hR,hA,hE,q⟩:=h;have G:P9 2 _:=hr.mono zo;refine⟨_,ae (aL<|br (pv 0)<|aV<|aw<|aV ah)
   (ae (bP 3 R8.nd<|ap EX hr U<|du (pv 0) (pv 1)<|pv 2)
   (ae (aL<|br (pv 0)<|aV<|aw<|aV ah)
   (ai<|ao<|aw<|bj ah<|pv 3))),?_⟩
  obtain⟨f1,J,Y,L,D⟩:=T.need;obtain⟨dx,ho⟩:=hR.ob;have z:At i k (("[":Str)::(dj e++[("]":Str)])):=hA;refine⟨_,U,a,dx,C,f1,_,J,2,[Ui,UG],_,U,ho,U,T.cl,Y,L,G,D,Qa,λp1 n1=>?_⟩;have j:=ag (o:=.tup [.str "["]) n1;refine⟨a,l,i,k,O,"[",p1,["["],U,hR.same j,z.hd,.inr<|P5.of aa,Mf,λR r1 B=>?_⟩;have Y3:Qc a H R:=(bR j).trans B;refine⟨_,U,_,U,_,U,a,l,i,k+1,O,e,w,b,U,hb,hw,r1,z.tl.l,hE,λu M v X v2=>?_⟩;obtain⟨WG,Z⟩:=v.ob;refine⟨_,U,a,WG,C,f1,_,J,2,[Ui,UG],_,U,Z,U,T.cl,Y,L,G,D,Qa,λp3 n3=>?_⟩;have N:=ag (o:=.tup [.str "]"]) n3;refine⟨a,l,i,k+1+(dj e).length,O,"]",p3,["]"],U,v.same N,z.tl.r.hd,.inr<|P5.of aa,Mf,λH4 r4 b4=>?_⟩;have YK:Qc a M H4:=(bR N).trans b4;refine⟨_,U,Qa,λp np=>?_⟩;have I:=ag (o:=.tup [.str "cell",u]) np;have N7:k+(dj<|.cell e).length=k+1+(dj e).length+1:=by
   show k+(("[":Str)::(dj e++[("]":Str)])).length=_;simp;lia
  refine q _ _ (by rw[N7];exact r4.same I) (((Y3.trans X).trans YK).same I) ⟨p,u,U,aa,?_⟩;exact(v2.kt<|YK.kt Z).kt (ak I)
def Ru:ax [Um,Uj,UF,"one","op","other"] [Um,Uj,UF] (aj ni):=cP zk
def qD(F:Qj K "read_two" "read_two" ni f fd)(T:uD P w K d e C)(EX:Fn P w K d e "read_expression" n [Um,Uj,UF] (nC C m))(OP:Fn P w K d e "ops_told" 1 [] Fc)(hn:3<=n):P7 P w K d e ce (n+1) f fd [Um,Uj,UF] (vJ C<|m+1):=by
 have ZZ:=Ru
 walk_at "o"
 ·obtain⟨a,l,i,k,O,o,x,y,w,b,rfl,v,hw,hR,hA,ee,hX,hY,q⟩:=h;have G:P9 2 _:=hr.mono zo;have N8:P9 1 _:=hr.mono zo;refine⟨_,ae (aL<|br (pv 0)<|aV<|aw<|aV ah)
   (ae (bP 3 Ru.nd<|ap EX hr U<|du (pv 0) (pv 1)<|pv 2)
   (ae (bP 4 Ru.nd<|br (pv 0)<|aV<|Ge OP N8 U)
   (ae (bP 5 Ru.nd<|ap EX hr U<|du (pv 0) (pv 1)<|pv 2)
   (ae (aL<|br (pv 0)<|aV<|aw<|aV ah)
   (ai<|ao<|aw<|du (pv 4) (pv 3)<|pv 5))))),?_⟩
  obtain⟨f1,J,Y,L,D⟩:=T.need;obtain⟨dx,ho⟩:=hR.ob;have Z:At i k (("(":Str)::(dj x++o::(dj y++[(")":Str)]))):=hA;have W7:=Z.tl.r;refine⟨_,U,a,dx,C,f1,_,J,2,[Ui,UG],_,U,ho,U,T.cl,Y,L,G,D,Qa,λp1 n1=>?_⟩;have N:=ag (o:=.tup [.str "("]) n1;refine⟨a,l,i,k,O,"(",p1,["("],U,hR.same N,Z.hd,.inr<|P5.of aa,Mf,λM r1 X=>?_⟩;have Y3:Qc a H M:=(bR N).trans X;refine⟨_,U,_,U,_,U,a,l,i,k+1,O,x,w,b,U,v,hw,r1,Z.tl.l,hX,λu B j b2 v2=>?_⟩;obtain⟨WG,VD⟩:=j.ob;refine⟨_,U,a,WG,C,f1,_,J,2,[Ui,UG],_,U,VD,U,T.cl,Y,L,G,D,U,λp3 n3=>?_⟩;have R:=ag (o:=.lst (am dG)) n3;refine⟨a,l,i,k+1+(dj x).length,O,o,p3,dG,U,j.same R,W7.hd,.inl<|P8.of aa,ee,λH4 r4 b4=>?_⟩;have YK:Qc a B H4:=(bR R).trans b4;have v4:=v2.kt (YK.kt VD);obtain⟨Ye,WN⟩:=r4.ob;refine⟨_,U,_,U,_,U,a,l,i,k+1+(dj x).length+1,O,y,w,b,U,v,hw,r4,W7.tl.l,hY,λt H5 r5 b5 v5=>?_⟩;obtain⟨YJ,W6⟩:=r5.ob;refine⟨_,U,a,YJ,C,f1,_,J,2,[Ui,UG],_,U,W6,U,T.cl,Y,L,G,D,Qa,λp6 n6=>?_⟩;have s6:=ag (o:=.tup [.str ")"]) n6;refine⟨a,l,i,k+1+(dj x).length+1+(dj y).length,O,")",p6,[")"],U,r5.same s6,W7.tl.r.hd,.inr<|P5.of aa,Mf,λH7 r7 b7=>?_⟩;have z:Qc a H5 H7:=(bR s6).trans b7;refine⟨_,U,_,U,_,U,Qa,λp np=>?_⟩;have I:=ag (o:=.tup [.str o,u,t]) np;have N7:k+(dj<|.two o x y).length=k+1+(dj x).length+1+(dj y).length+1:=by
   show k+(("(":Str)::(dj x++o::(dj y++[(")":Str)]))).length=_;simp;lia
  refine q _ _ (by rw[N7];exact r7.same I) (((((Y3.trans b2).trans YK).trans b5).trans z).same I) ⟨p,u,t,U,aa,?_,?_⟩
  ·exact((v4.kt<|b5.kt WN).kt<|z.kt W6).kt (ak I)
  ·exact(v5.kt<|z.kt W6).kt (ak I)
def Sr:ax [Um,Uj,UF,Vo] [Um,Uj,UF] (aj kP):=cP zk
def ml(F:Qj K "read_expression" "read_expression" kP f fd)(T:uD P w K r t C)(Z:ZE r t5)(NM:Fn P w K r t "is_name" 1 [UU] Al)(CE:Fn P w K r t "read_cell" n [Um,Uj,UF] (qB C m))(TW:Fn P w K r t "read_two" n [Um,Uj,UF] (vJ C m))(hn:3<=n):P7 P w K r t ce (n+1) f fd [Um,Uj,UF] (nC C m):=by
 have ZZ:=Sr
 walk_at "o"
 ·obtain⟨a,l,j,k,J,e,w,b,rfl,hb,hw,Y,hA,I,q⟩:=h;have N8:P9 1 _:=hr.mono zo;have V':P9 3 _:=hr.mono zo;refine⟨_,ae (bP 3 Sr.nd<|aX<|pv 0)
   (ae (aP (c6 (λ_ O=>O=H/\∃x,e=.cell x) (λ_ O=>O=H/\∀x,e≠.cell x)<|PW.pt<|bW (bY eR (pv 2)<|bf (v:=.int 3) U Z.mb ⟨_,U⟩)<|bG<|bY aR (pv 3) ah) (ai<|ao<|ap CE hr U<|du (pv 0) (pv 1)<|az bM (pv 2) af) ay)
   (ae (aP (c6 (λ_ O=>O=H/\∃o x y,e=.two o x y) (λ_ O=>O=H/\∀o x y,e≠.two o x y)<|PW.pt<|bW (bY eR (pv 2)<|bf (v:=.int 3) U Z.mb ⟨_,U⟩)<|bG<|bY aR (pv 3) ah) (ai<|ao<|ap TW hr U<|du (pv 0) (pv 1)<|az bM (pv 2) af) ay)
   (ae (aP (dq<|ap NM N8 U<|aV<|pv 3) (ai<|ao<|aw<|bj ah<|aX<|pv 0) ay)
   (ai<|ao<|aw<|bj ah<|br (pv 0)<|bj af<|az kD (az pW af<|pv 1) af)))),?_⟩
  obtain⟨f1,Oa,M1,F1,B1⟩:=T.look;obtain⟨f2,Wc,M2,F2,B2⟩:=T.take;obtain⟨f3,VW,M3,F3,B3⟩:=T.nnum;obtain⟨R,M⟩:=Y.ob;have B:=Gx hA;refine⟨_,U,a,R,C,f1,_,Oa,1,[Ui],_,U,M,U,T.cl,M1,F1,N8,B1,a,l,j,k,J,Dw e,U,Y,B,?_,?_,?_⟩
  ·rintro O ⟨rfl,x,rfl⟩;cases m with
   |zero=>exact absurd I (by simp[c9])
   |succ m=>
    refine⟨_,U,_,U,_,U,_,_,U,U,a,l,j,k,J,x,w,b+1,U,zo,hw,Y,hA,I,q⟩
  ·rintro O ⟨rfl,ee⟩;refine⟨?_,?_,?_⟩
   ·intro O z;obtain⟨rfl,o,x,y,rfl⟩:=z;cases m with
    |zero=>exact absurd I (by simp[c9])
    |succ m=>
     obtain⟨h1,h2,h3⟩:=I;exact⟨_,U,_,U,_,U,_,_,U,U,a,l,j,k,J,o,x,y,w,b+1,U,zo,hw,Y,hA,h1,h2,h3,q⟩
   ·rintro O ⟨rfl,D⟩;cases e with
    |cell x=>exact absurd U (ee x)
    |two o x y=>exact absurd U (D o x y)
    |nm z=>
     have hN:Qh z:=by cases m<;>exact I
     have hS:=z9 z;refine⟨_,U,z.cps.toList,e_ (λx=>[V.str x]) hS,?_,λH1 L=>⟨_,U,bx (Gw hN) ?_⟩⟩
     ·have zl:z.length=z.cps.toList.length:=by show z.cps.size=_;simp
      have:=hN.2.2.1;lia
     refine⟨_,U,a,R,C,f2,_,Wc,1,[Ui],_,U,L _ _ M,U,T.cl,M2,F2,N8,B2,a,l,j,k,J,z,U,Y.same L,B,λH2 X N=>?_⟩;refine⟨Qa,λp np=>?_⟩;have d:=ag (o:=.tup [.str "name",.str z]) np;exact q _ _ (X.same d) (((bR L).trans N).same d) ⟨p,U,aa⟩
    |num i=>
     have hi:i<2^w:=by cases m<;>exact I
     have ea:2^w<=2^24:=MH zd hw;have hS:=jm i;refine⟨_,U,dg i,e_ (λx=>[V.str x]) hS,?_,λH1 L=>⟨_,U,aY (IV i) ?_⟩⟩
     ·have:=(ip i).2 8 zd zo;lia
     have et:(1*2^((w:Int)).toNat-1:Int)=((2^w-1:Nat):Int):=by
      rw[Nm,Int.one_mul];have:0<2^w:=NT zd;have e2:((2^w:Nat):Int)=(2:Int)^w:=by norm_cast
      lia
     refine⟨_,U,a,R,C,f3,_,VW,3,[Ui,Vn,Vc],_,U,L _ _ M,U,T.cl,M3,F3,V',B3,_,U,_,_,U,U,⟨zo,zo,zd⟩,_,_,U,U,a,l,j,k,J,i,0,2^w-1,?_,Y.same L,B,zo,zo,zo,λH2 X N=>?_⟩
     ·show [V.ref a,V.int 0,V.int<|1*2^((w:Int)).toNat-1]=_;rw[et];rfl
     refine⟨Qa,λp np=>?_⟩;have d:=ag (o:=.tup [.str "number",.int (i:Nat)]) np;exact q _ _ (X.same d) (((bR L).trans N).same d) ⟨p,U,aa⟩
   ·refine⟨_,U,_,_,U,U,_,U,?_⟩;by_cases G:∃o x y,e=.two o x y
    ·obtain⟨o,x,y,rfl⟩:=G;have hm:m≠0:=by
      rintro rfl;simp[c9]at I
     refine bx (b_ zo) ⟨_,U,U,_,U,bx (b_ U) ⟨U,o,x,y,U⟩⟩
    ·have D:∀o x y,e≠.two o x y:=λo x y h=>G ⟨o,x,y,h⟩;refine bE (λ_=>⟨_,U,U,_,U,aY (c_ λh=>Ao I D<|V.str.inj h) ⟨U,D⟩⟩) (λ_=>cD ⟨U,D⟩)
  ·refine⟨_,U,_,_,U,U,_,U,?_⟩;by_cases G:∃x,e=.cell x
   ·obtain⟨x,rfl⟩:=G;have hm:m≠0:=by
     rintro rfl;simp[c9]at I
    refine bx (b_ zo) ⟨_,U,U,_,U,bx (b_ U) ⟨U,x,U⟩⟩
   ·have D:∀x,e≠.cell x:=λx h=>G ⟨x,h⟩;refine bE (λ_=>⟨_,U,U,_,U,aY (c_ λh=>An I D<|V.str.inj h) ⟨U,D⟩⟩) (λ_=>cD ⟨U,D⟩)
end
def ef:Vx:=[Uh,Uk,"number",U3]
structure vK(K:ZF)(mg:Str->Option Vq)(aS aE aF:Vr)(t1 t2 t3 t4:Tok):Prop where
 sorts:mg "SORTS"=some (.ref aS)
 sortsq:∀H,P5 K H aS (am ef)
 ends:mg "ENDS"=some (.ref aE)
 endsq:∀H,P5 K H aE (am [UJ,U4,Uz,UN,UO,Ut])
 owf:mg "OWN_FAULTS"=some (.ref aF)
 owfq:∀H,P5 K H aF (am [Vg,Vh])
 mf:mg "MOST_FIELDS"=some (.int 3 t1)
 ms:mg "MOST_SETS"=some (.int 4 t2)
 mc:mg "MOST_CHOICES"=some (.int 3 t3)
 mkn:mg "MOST_KINDS"=some (.int 8 t4)
inductive Qp(H:Hp)(u:V)(x:Str×Str):Prop
 |mk(p:_):u=.ref p->H p=some (.tup [.str x.1,.str x.2])->Qp H u x
inductive qE(C:Vr)(vs:VA)(H:Hp)(Q:VK)(o:XK):Prop
 |mk(a l t k me:_)(x:Str×Str):vs=[.ref a]->Qs C H a l t k me->(tz t)[k]?=some x.1->Qh x.1->(tz t)[k+1]?=some x.2->x.2∈ef->(∀p e,Qs C e a l t (k+2) me->Qc a H e->H p=none->e p=some (.tup [.str x.1,.str x.2])->Q (.ref p) e)->qE C vs H Q o
section
def jO(b:Qc a H e)(q:e a=some (.ins C i r))(n:e p=none):H p=none:=by
 by_cases h:p=a
 ·subst h;rw[q]at n;cases n
 ·cases t:H p with
  |none=>rfl
  |some o=>
   have:=b _ _ t h;rw[n]at this;cases this
def R6:ax [Um,"name"] [Um] (aj jf):=cP zk
def Ap(F:Qj K "read_field" "read_field" jf f d)(T:uD P w K t e C)(Z:vK K t aS aE aF X t2 t3 t4):P7 P w K t e ce 3 f d [Um] (qE C):=by
 have ZZ:=R6
 walk_at "o"
 ·obtain⟨a,l,i,k,D,x,rfl,I,h0,j,m,R,q⟩:=h;refine⟨_,ae (bP 1 R6.nd<|aX<|pv 0)<|ai<|ao<|aw<|bj (pv 1)<|br (pv 0)<|aV<|bf (v:=.ref aS) U Z.sorts U,?_⟩;obtain⟨f1,Oa,M1,F1,B1⟩:=T.need;obtain⟨f2,Wc,M2,F2,B2⟩:=T.nname;obtain⟨r,N⟩:=I.ob;refine⟨_,U,a,r,C,f2,_,Wc,2,[Ui],_,U,N,U,T.cl,M2,F2,hr,B2,a,l,i,k,D,x.1,U,I,h0,j,λM Y z=>?_⟩;obtain⟨WS,VO⟩:=Y.ob;refine⟨_,U,_,U,a,WS,C,f1,_,Oa,2,[Ui,UG],_,U,VO,U,T.cl,M1,F1,hr,B1,a,l,i,k+1,D,x.2,aS,ef,U,Y,m,.inr<|Z.sortsq _,R,λB G O=>?_⟩;obtain⟨WG,VD⟩:=G.ob;refine⟨Qa,λp L=>?_⟩;have J:=ag (o:=.tup [.str x.1,.str x.2]) L;exact q p _ (G.same J) ((z.trans O).same J) (jO (z.trans O) VD L) aa
end
inductive nF(C:Vr)(vs:VA)(H:Hp)(Q:VK)(i:XK):Prop
 |mk(a l o k me e:_):vs=[.ref a]->Qs C H a l o k me->At o k (gX e)->qA e->(∀v t,Qs C t a l o (k+(gX e).length) me->Qc a H t->SM t e v->Q v t)->nF C vs H Q i
inductive vL(C:Vr)(vs:VA)(H:Hp)(Q:VK)(o:XK):Prop
 |mk(a l t k me g:_)(w:Nat)(cf:Bool):vs=[.ref a,.int w,.bl cf]->w<=24->(g.isCell=true->cf=true)->Qs C H a l t k me->At t k (jN g)->kZ w g->(∀v e,Qs C e a l t (k+(jN g).length) me->Qc a H e->Ro e g v->Q v e)->vL C vs H Q o
inductive qF(C:Vr)(vs:VA)(H:Hp)(Q:VK)(i:XK):Prop
 |mk(a l o k me s e:_)(w:Nat):vs=[.ref a,.int w]->w<=24->Qs C H a l o k me->At o k (bS s++gX e)->fE w 0 (.leaf s e)->(∀v t,Qs C t a l o (k+(bS s++gX e).length) me->Qc a H t->Se t (.leaf s e) v->Q v t)->qF C vs H Q i
def SM.kt(k:Qi H t)(h:SM H e v):SM t e v:=let⟨p,a,b⟩:=h;⟨p,a,k _ _ b⟩
def CG:En->Str
 |.w0 s=>s
 |.w1 s _=>s
def qG(h:qA e):CG e∈([UJ,U4,Uz,UN,UO,Ut]:Vx):=by
 cases e with
 |w0 s=>
  have t:s∈([UJ,UN,UO]:Vx):=h;simp only[Mo,Mu,l_]at t;show s∈_;rcases t with rfl|rfl|rfl<;>decide +kernel
 |w1 s z=>
  have t:s∈([U4,Uz,Ut]:Vx):=h.1;simp only[Mo,Mu,l_]at t;show s∈_;rcases t with rfl|rfl|rfl<;>decide +kernel
def Aq(h:At t k (gX e)):(tz t)[k]?=some (CG e):=by
 cases e with
 |w0 s=>exact h.hd
 |w1 s z=>exact h.hd
section
def Sz:ax [Um,"end"] [Um] (aj nh):=cP zk
def Dx(F:Qj K "read_end" "read_end" nh f fd)(T:uD P w K mg i C)(Z:vK K mg aS aE aF t1 t2 t3 t4):P7 P w K mg i ce 3 f fd [Um] (nF C):=by
 have ZZ:=Sz
 walk_at "o"
 ·obtain⟨a,l,t,k,Y,e,rfl,hR,hA,O,q⟩:=h;refine⟨_,ae (bP 1 Sz.nd<|br (pv 0)<|aV<|bf (v:=.ref aE) U Z.ends U)
   (ae (aP (c6 (λ_ _=>False) (λ_ R=>Qs C R a l t (k+1) Y/\Qc a H R)<|PW.pt<|bW (bY aR (pv 1) ah)<|bG<|cy cC (aX<|pv 0) (bf (v:=.ref aF) U Z.owf U) U) (ai dv) ay)
   (ae (aP (cy cC (pv 1) (aw<|du ah ah ah) U) (ai<|ao<|aw<|bj (pv 1)<|aX<|pv 0) ay)
   (ai<|ao<|aw<|aV<|pv 1))),?_⟩
  obtain⟨f1,Oa,M1,F1,B1⟩:=T.need;obtain⟨f2,Wc,M2,F2,B2⟩:=T.nname;obtain⟨f3,VW,M3,F3,B3⟩:=T.look;obtain⟨dx,ho⟩:=hR.ob;refine⟨_,U,a,dx,C,f1,_,Oa,2,[Ui,UG],_,U,ho,U,T.cl,M1,F1,hr,B1,a,l,t,k,Y,CG e,aE,[UJ,U4,Uz,UN,UO,Ut],U,hR,Aq hA,.inr<|Z.endsq _,qG O,λH1 G M=>?_⟩;refine⟨λ_ z=>z.elim,?_,?_⟩
  ·rintro H2 ⟨N,B⟩;obtain⟨WG,VD⟩:=N.ob;refine⟨_,U,Qa,λee n3=>?_⟩;have I:=ag (o:=.tup [.str U4,.str Uz,.str Ut]) n3;have L:ic (.str<|CG e) [.str U4,.str Uz,.str Ut]=([U4,Uz,Ut]:Vx).contains (CG e):=dZ _ [U4,Uz,Ut];refine⟨ee,_,U,.inr<|P5.of aa,U,U,_,U,bE (λh=>?_) λh=>?_⟩
   ·have d:([U4,Uz,Ut]:Vx).contains (CG e)=true:=by rw[<-L];exact h
    cases e with
    |w0 s=>
     exfalso;have r:s∈([UJ,UN,UO]:Vx):=O;have j:s∈([U4,Uz,Ut]:Vx):=MV.mp d;simp only[Mo,Mu,l_]at r;rcases r with rfl|rfl|rfl<;>revert j<;>decide +kernel
    |w1 s z=>
     have J:At t k [s,z]:=hA;refine⟨_,U,_,U,a,WG,C,f2,_,Wc,2,[Ui],_,U,I _ _ VD,U,T.cl,M2,F2,hr,B2,a,l,t,k+1,Y,z,U,N.same I,J.tl.hd,O.2.1,λH4 r4 b4=>?_⟩;refine⟨Qa,λp np=>?_⟩;have D:=ag (o:=.tup [.str s,.str z]) np;exact q _ _ (r4.same D) (((B.same I).trans b4).same D) ⟨p,U,aa⟩
   ·have d:([U4,Uz,Ut]:Vx).contains (CG e)=false:=by rw[<-L];exact Nc.mpr h
    cases e with
    |w1 s z=>
     exfalso;have WQ:([U4,Uz,Ut]:Vx).contains s=false:=d;rw[MV.mpr O.1]at WQ;cases WQ
    |w0 s=>
     refine⟨_,U,Qa,λp np=>?_⟩;have D:=ag (o:=.tup [.str s]) np;exact q _ _ ((N.same I).same D) ((B.same I).same D) ⟨p,U,aa⟩
  ·obtain⟨WS,VO⟩:=G.ob;refine⟨_,U,U,_,U,bE (λh=>?_) λh=>cD ⟨G,M⟩⟩;have X:CG e=Ut:=V.str.inj (i_ h);cases e with
   |w0 s=>
    exfalso;have r:s∈([UJ,UN,UO]:Vx):=O;have j:s=Ut:=X;rw[j]at r;revert r;decide +kernel
   |w1 s z=>
    have J:At t k [s,z]:=hA;have hs:s=Ut:=X;have hz:=O.2.2 hs;have L:ic (.str z) (am [Vg,Vh])=([Vg,Vh]:Vx).contains z:=dZ _ _;refine⟨_,U,a,WS,C,f3,_,VW,1,[Ui],_,U,VO,U,T.cl,M3,F3,hr.m,B3,a,l,t,k+1,Y,z,U,G,J.tl.hd,aF,_,U,.inr<|Z.owfq _,U,cQ _,_,U,aY ?_ ⟨G,M⟩⟩;show ic (.str z) (am [Vg,Vh])=false;rw[L];exact Nc.mpr λh=>hz (MV.mp h)
def rU:Gs->Vx
 |.cell a _=>("[":Str)::(dj a++[("]":Str)])
 |.nm z _=>[z]
def tj:Gs->Ex
 |.cell _ e=>e
 |.nm _ e=>e
def vM(g:Gs):jN g=rU g++("=":Str)::(dj (tj g)++[(";":Str)]):=by
 cases g with
 |cell a e=>
  show("[":Str)::(dj a++("]":Str)::("=":Str)::(dj e++[(";":Str)]))=(("[":Str)::(dj a++[("]":Str)]))++_;simp[tj]
 |nm z e=>rfl
def HdV(H:Hp)(g:Gs)(u:V):Prop:=match g with
 |.cell a _=>Rr H a u
 |.nm z _=>u=.str z
def HdV.kt(k:Qi H t)(h:HdV H g u):HdV t g u:=by
 cases g with
 |cell a e=>exact Rr.kt k h
 |nm z e=>exact h
def yB:Gs->Str
 |.cell _ _=>"cell"
 |.nm _ _=>"name"
def IY(h:kZ w g):c9 w 3 (tj g):=by
 cases g with
 |cell a e=>exact h.2
 |nm z e=>exact h.2
def Q4:ax [Um,Uj,U6,UZ,UX,UI] [Um,Uj,U6] (aj m8):=cP zk
inductive Ar(a:Vr)(w:Nat)(g:Gs)(C:Vr)(l:Vr)(t:Vx)(k:Nat)(me:Bool)(H:Hp)(o:St)(e:Hp):Prop
 |mk(ug:_):o=[some<|.ref a,some<|.int (w:Nat),some<|.bl cf,some<|.str<|yB g,some ug,none]->Qs C e a l t (k+(rU g).length) me->Qc a H e->HdV e g ug->Ar a w g C l t k me H o e
def Dy(F:Qj K "read_set" "read_set" m8 f fd)(T:uD P w K mg d C)(EX:Fn P w K mg d "read_expression" n [Um,Uj,UF] (nC C 3))(hn:3<=n):P7 P w K mg d ce (n+1) f fd [Um,Uj,U6] (vL C):=by
 have ZZ:=Q4
 walk_at "o"
 ·obtain⟨a,l,i,k,I,g,w,cf,rfl,hw,ee,J,L,hG,q⟩:=h;have N8:P9 1 _:=hr.mono zo;have N9:P9 2 _:=hr.mono zo;refine⟨_,bH (Ar a w g C l i k I H) (aP (c6 (λ_ j=>j=H/\g.isCell=true) (λ_ j=>j=H/\g.isCell=false)<|PW.pt<|bW (dq<|pv 2)<|bG<|bY aR (aX<|pv 0) ah)
     (ae (aL<|aX<|pv 0)<|ae (bP 3 Q4.nd ah)<|ae (bP 4 Q4.nd<|ap EX hr U<|du (pv 0) (pv 1) af)<|ai<|aL<|br (pv 0)<|aV<|aw<|aV ah)
     (ae (bP 3 Q4.nd ah)<|ai<|bP 4 Q4.nd<|aX<|pv 0))
   (ae (aL<|br (pv 0)<|aV<|aw<|aV ah)
   (ae (bP 5 Q4.nd<|ap EX hr U<|du (pv 0) (pv 1) af)
   (ae (aL<|br (pv 0)<|aV<|aw<|aV ah)
   (ai<|ao<|aw<|du (pv 3) (pv 4)<|pv 5)))),?_⟩
  obtain⟨f1,Oa,M1,F1,B1⟩:=T.need;obtain⟨f2,Wc,M2,F2,B2⟩:=T.nname;obtain⟨f3,VW,M3,F3,B3⟩:=T.look;obtain⟨f4,Zt,M4,F4,B4⟩:=T.take;rw[vM]at L;have W7:=L.r;obtain⟨m,v⟩:=J.ob;refine⟨?_,?_,?_,?_⟩
  ·intro σ N z;obtain⟨ug,rfl,r1,b1,v1⟩:=z;obtain⟨WS,VO⟩:=r1.ob;refine⟨_,U,a,WS,C,f1,_,Oa,2,[Ui,UG],_,U,VO,U,T.cl,M1,F1,N9,B1,Qa,λp2 n2=>?_⟩;have s2:=ag (o:=.tup [.str "="]) n2;refine⟨a,l,i,k+(rU g).length,I,"=",p2,["="],U,r1.same s2,W7.hd,.inr<|P5.of aa,Mf,λR r3 b3=>?_⟩;have Y:Qc a N R:=(bR s2).trans b3;have v3:=v1.kt (Y.kt VO);obtain⟨X1,WE⟩:=r3.ob;refine⟨_,U,_,U,a,l,i,k+(rU g).length+1,I,tj g,w,0,U,U,hw,r3,W7.tl.l,IY hG,λt H4 r4 b4 v4=>?_⟩;have et:=v3.kt (b4.kt WE);obtain⟨Ye,WN⟩:=r4.ob;refine⟨_,U,a,Ye,C,f1,_,Oa,2,[Ui,UG],_,U,WN,U,T.cl,M1,F1,N9,B1,Qa,λp5 n5=>?_⟩;have s5:=ag (o:=.tup [.str ";"]) n5;refine⟨a,l,i,k+(rU g).length+1+(dj<|tj g).length,I,";",p5,[";"],U,r4.same s5,W7.tl.r.hd,.inr<|P5.of aa,Mf,λH6 r6 b6=>?_⟩;have Yg:Qc a H4 H6:=(bR s5).trans b6;refine⟨_,U,_,U,_,U,Qa,λp np=>?_⟩;have s7:=ag (o:=.tup [.str<|yB g,ug,t]) np;have Z:Qi H4 (aB H6 p<|.tup [.str<|yB g,ug,t]):=(Yg.kt WN).trans (ak s7);have N7:k+(jN g).length=k+(rU g).length+1+(dj<|tj g).length+1:=by
    rw[vM];simp;lia
   refine q _ _ (by rw[N7];exact r6.same s7) ((((b1.trans Y).trans b4).trans Yg).same s7) ?_;have vE:=Rr.kt Z v4;have vH:=et.kt Z;cases g with
   |cell O e'=>exact⟨p,ug,t,U,aa,vH,vE⟩
   |nm z e'=>
    have:ug=.str z:=v1;subst this;exact⟨p,t,U,aa,vE⟩
  ·rintro N ⟨rfl,B⟩;cases g with
   |nm z e=>cases B
   |cell O e=>
    have D:At i k (("[":Str)::(dj O++[("]":Str)])):=L.l;refine⟨_,U,a,m,C,f4,_,Zt,1,[Ui],_,U,v,U,T.cl,M4,F4,N8,B4,a,l,i,k,I,"[",U,J,D.hd,λH2 X M=>?_⟩;refine⟨_,U,_,U,a,l,i,k+1,I,O,w,0,U,U,hw,X,D.tl.l,hG.1,λu R r3 b3 v3=>?_⟩;obtain⟨X1,WE⟩:=r3.ob;refine⟨_,U,a,X1,C,f1,_,Oa,2,[Ui,UG],_,U,WE,U,T.cl,M1,F1,N9,B1,Qa,λp5 n5=>?_⟩;have s5:=ag (o:=.tup [.str "]"]) n5;refine⟨a,l,i,k+1+(dj O).length,I,"]",p5,["]"],U,r3.same s5,D.tl.r.hd,.inr<|P5.of aa,Mf,λH6 r6 b6=>?_⟩;have G:Qc a R H6:=(bR s5).trans b6;have N7:k+(rU<|.cell O e).length=k+1+(dj O).length+1:=by
     show k+(("[":Str)::(dj O++[("]":Str)])).length=_;simp;lia
    exact⟨u,U,by rw[N7];exact r6,(M.trans b3).trans G,Rr.kt (G.kt WE) v3⟩
  ·rintro N ⟨rfl,B⟩;cases g with
   |cell O e=>cases B
   |nm z e=>
    have D:At i k [z]:=L.l;refine⟨_,U,a,m,C,f2,_,Wc,2,[Ui],_,U,v,U,T.cl,M2,F2,N9,B2,a,l,i,k,I,z,U,J,D.hd,hG.1,λH2 X M=>?_⟩;exact⟨_,U,X,M,U⟩
  ·refine⟨_,U,cf,U,?_⟩;cases g with
   |cell O e=>
    have D:At i k (("[":Str)::(dj O++[("]":Str)])):=L.l;rw[ee rfl];refine kG ⟨_,U,a,m,C,f3,_,VW,1,[Ui],_,U,v,U,T.cl,M3,F3,N8,B3,a,l,i,k,I,"[",U,J,D.hd,U,_,U,bx (b_ U) ⟨U,U⟩⟩
   |nm z e=>
    have D:At i k [z]:=L.l;refine bE (λ_=>?_) (λ_=>cD ⟨U,U⟩);refine⟨_,U,a,m,C,f3,_,VW,1,[Ui],_,U,v,U,T.cl,M3,F3,N8,B3,a,l,i,k,I,z,U,J,D.hd,U,_,U,aY (c_ λh=>?_) ⟨U,U⟩⟩;have h':=V.str.inj h;rw[Gy]at h';exact qC hG.1 (by simp) h'
end
section
variable{K:ZF}{X:Cx}
def tq(h:X.K=K):HJ X (C1 K):=by subst h;exact wQ
def jP(h:X.K=K):HJ X (C3 K):=by subst h;exact zE
def tu(h:X.K=K):eD X (.builtin "len") (λt H Q=>∃p e,t=[.ref p]/\(P8 K H p e\/P5 K H p e)/\Q (.int e.length) H):=by subst h;exact aT
def aZ{α:Type}{x:α}{r:List α}:oH (x::r) 0=some x:=aI (j:=0) (xs:=x::r) rfl
def cF{α:Type}{x y:α}{r:List α}:oH (x::y::r) 1=some y:=aI (j:=1) (xs:=x::y::r) rfl
def iW{α:Type}{x y z:α}{r:List α}:oH (x::y::z::r) 2=some z:=aI (j:=2) (xs:=x::y::z::r) rfl
def Dz{α:Type}{x y z u:α}{r:List α}:oH (x::y::z::u::r) 3=some u:=aI (j:=3) (xs:=x::y::z::u::r) rfl
def fF{α β:Type}{R:α->β->Prop}{x:α}{y:β}(h:R x y):∀{e:List α}{t:List β},Paired R e t->Paired R (e++[x]) (t++[y])
 |_,_,.nil=>.cons h .nil
 |_,_,.cons a b=>.cons a (fF h b)
def bq{α β:Type}{R q:α->β->Prop}(f:∀x y,R x y->q x y):∀{e:List α}{t:List β},Paired R e t->Paired q e t
 |_,_,.nil=>.nil
 |_,_,.cons a b=>.cons (f _ _ a) (bq f b)
def fh{α β:Type}{R:α->β->Prop}:∀{o:List α}{r:List β},Paired R o r->∀{i:Nat}{x:α},o[i]?=some x->∃y,r[i]?=some y/\R x y
 |_,_,.cons h t,0,x,e=>by
  simp at e;exact⟨_,U,e▸h⟩
 |_,_,.cons h t,i+1,x,e=>by
  obtain⟨y,a,b⟩:=fh t (i:=i) (x:=x) (by simpa using e);exact⟨y,by simpa using a,b⟩
variable{H:Hp}
def xc{l:Vr}{t ys:VA}(e:H l=some (.lst t)):Qi H (aB H l<|.lst ys):=F9 e
def Se.kt{H z:Hp}(k:Qi H z):∀{b:Bd}{v:V},Se H b v->Se z b v
 |.leaf _ _,_,⟨p,q,o,u,a,b,c,d,e⟩=>⟨p,q,o,u,a,k _ _ b,k _ _ c,bq (λ_ _ h=>Ro.kt k h) d,e.kt k⟩
 |.ite _ _ _ _,_,⟨p,u,x,y,a,b,⟨t,c,O⟩,d,e⟩=>⟨p,u,x,y,a,k _ _ b,⟨t,c,k _ _ O⟩,Se.kt k d,Se.kt k e⟩
def dM(t:Bool)(z:Str):Vx:=if t then [UW,z]else [z]
def DA:Bd->Vx
 |.leaf s e=>bS s++gX e
 |.ite t z y n=>(Vf:Str)::(dM t z++(dz y++(Vb:Str)::dz n))
def As(b:Bd):dz b=("{":Str)::(DA b++[("}":Str)]):=by
 cases b with
 |leaf s e=>simp[dz,DA]
 |ite t z y n=>simp[dz,DA,dM]
inductive qH(C:Vr)(vs:VA)(H:Hp)(Q:VK)(i:XK):Prop
 |mk(a l o k me t z:_):vs=[.ref a]->Qs C H a l o k me->At o k (dM t z)->Qh z->(∀v e,Qs C e a l o (k+(dM t z).length) me->Qc a H e->Rj e t z v->Q v e)->qH C vs H Q i
inductive mm(C:Vr)(m:Nat)(vs:VA)(H:Hp)(Q:VK)(o:XK):Prop
 |mk(a l t k me b:_)(w c:Nat):vs=[.ref a,.int w,.int c]->c+m=3->w<=24->Qs C H a l t k me->At t k (dz b)->fE w m b->(∀v e,Qs C e a l t (k+(dz b).length) me->Qc a H e->Se e b v->Q v e)->mm C m vs H Q o
inductive nG(C:Vr)(m:Nat)(vs:VA)(H:Hp)(Q:VK):Prop
 |mk(a l o k me t z y n:_)(w c:Nat):vs=[.ref a,.int w,.int c]->c+m=3->w<=24->Qs C H a l o k me->At o k (DA<|.ite t z y n)->Qh z->fE w m y->fE w m n->(∀v e,Qs C e a l o (k+(DA<|.ite t z y n).length) me->Qc a H e->Se e (.ite t z y n) v->Q v e)->nG C m vs H Q
def lj(C:Vr):Nat->Sp
 |0=>li
 |m+1=>λvs H Q _=>nG C m vs H Q
def lA:∀a b:List Gs,bS (a++b)=bS a++bS b
 |[],_=>rfl
 |g::r,b=>by
  show("set":Str)::(jN g++bS (r++b))=(("set":Str)::(jN g++bS r))++bS b;rw[lA r b];simp
variable{v:V}
def Ro.at{g:Gs}(h:Ro H g v):∃p r,v=.ref p/\H p=some (.tup (.str (yB g)::r)):=by
 cases g with
 |cell a e=>obtain⟨p,u,t,a,b,_⟩:=h;exact⟨p,_,a,b⟩
 |nm z e=>obtain⟨p,t,a,b,_⟩:=h;exact⟨p,_,a,b⟩
def Au(g:Gs):(!decide (V.str (yB g)=V.str "cell"))=!g.isCell:=by
 cases g with
 |cell a e=>rw[b_<|show V.str (yB<|.cell a e)=V.str "cell" from rfl];rfl
 |nm z e=>rw[c_ λh=>absurd (V.str.inj h) (by show("name":Str)≠"cell";decide +kernel)];rfl
variable{e:En}
def yC(h:qA e):CG e≠"set":=by
 have:=qG h;intro q;rw[q]at this;revert this;decide +kernel
variable{P:Vt}{w:Vu}{K:ZF}{mg:Str->Option Vq}{M:Heap}{C fi aS aE aF aO:Vr}{t1 t2 t3 t4 t5 tM:Tok}
def RY:ax [Um,Uj,"sets",U6] [Um,Uj] (aj iF):=cP zk
def DB:([UX]:Vx).Nodup:=by decide +kernel
variable{n:Nat}{fd:Vw}{f:Vr}
def Av(F:Qj K "read_leaf" "read_leaf" iF f fd)(T:uD P w K mg M C)(Z:vK K mg aS aE aF t1 t2 t3 t4)(B:Bl mg)(SR:Fn P w K mg M "read_set" n [Um,Uj,U6] (vL C))(EN:Fn P w K mg M "read_end" 3 [Um] (nF C))(hn:3<=n):P7 P w K mg M ce (n+1) f fd [Um,Uj] (qF C):=by
 have ZZ:=RY
 walk_at "o"
 ·obtain⟨a,l,ts,k,me,s,e,w,rfl,hw,hR,hA,⟨h4,hG,hU,hE⟩,q⟩:=h;have N8:P9 1 _:=hr.mono zo;have V':P9 3 _:=hr.mono zo;have sz:(1000:Nat)<=sizeLine:=by decide
  refine⟨_,ae (bP 2 RY.nd<|aM bN)
   (ae (gk h_ (PW.pt<|bW (bY eR (aC aT (by rfl) B.len MG<|aV<|pv 2)<|bf (v:=.int 4) U Z.ms ⟨_,U⟩)<|bG<|bY aR (aX<|pv 0) ah)
    (ae (aL<|aX<|pv 0)
    (ae (bP 3 RY.nd<|aC (ig U) (by rfl) B.all gw<|aV<|gu (N':=[UX]) (ix:=[none]) (sc0:=aj iF) (N:=[Um,Uj,"sets",U6]) U zk (cW<|pv 2) (λC' cl s H fp=>gZ (i:=0) DB) (λ_ _ _ _ _=>eM) λC' cl s H fp=>uC mP (fw (jP (K:=K) U) (pv 0) af) ah)
    (ai<|aL<|cx Mw My Mx bu (pv 2)<|aV<|ap SR hr U<|du (pv 0) (pv 1)<|pv 3))))
   (ai<|ao<|aw<|du ah (aU bQ (by rfl) B.tuple cu<|aV<|pv 2)<|ap EN V' U<|aV<|pv 0)),?_⟩
  obtain⟨f3,VW,M3,F3,B3⟩:=T.look;obtain⟨f4,Zt,M4,F4,B4⟩:=T.take;obtain⟨dx,ho⟩:=hR.ob;refine⟨Qa,λI nn=>?_⟩;generalize zz:aB H I _=H1;have s1:=(nw nn zz).1;have e1:=(nw nn zz).2;clear zz;have YB:I≠a:=λz=>by rw[z,ho]at nn;cases nn
  have ec:l≠I:=au hR.tk nn;refine⟨λm σ O=>∃(i:Nat)(v3:Option V)(d:VA),i<=s.length/\m=s.length-i/\σ=[some<|.ref a,some<|.int (w:Nat),some<|.ref I,v3]/\Qs C O a l ts (k+(bS<|s.take i).length) me/\Qc a H O/\O I=some (.lst d)/\d.length=i/\Paired (λv g=>Ro O g v) d (s.take i),⟨_,0,none,[],MR _,U,U,hR.same s1,bR s1,e1,U,.nil⟩,?_⟩;intro m σ H2 z;obtain⟨i,v3,d,hi,rfl,rfl,r2,b2,e2,lu,Od⟩:=z;obtain⟨WG,VD⟩:=r2.ob;refine⟨_,U,I,_,U,.inl<|P8.of e2,_,_,U,U,_,U,?_⟩;by_cases Oh:i<s.length
  ·have hg:s[i]?=some s[i]:=Mi Oh;generalize er:s[i]=g at*;have ed:g∈s:=Mr hg;have Yd:s.take (i+1)=s.take i++[g]:=by rw[MW,hg];rfl
   have en:bS s=bS (s.take i)++(("set":Str)::(jN g++bS (s.drop<|i+1))):=by
    have:s=s.take i++(g::s.drop (i+1)):=by
     have h':=(Nb i s).symm;rw[MZ Oh,er]at h';exact h'
    conv=>lhs;rw[this,lA]
    rfl
   have ee:At ts (k+(bS<|s.take i).length) (("set":Str)::(jN g++bS (s.drop<|i+1))):=by
    have:=hA.l;rw[en]at this;exact this.r
   refine bx (b_<|by rw[lu];lia) ?_;refine⟨_,U,a,WG,C,f3,_,VW,1,[Ui],_,U,VD,U,T.cl,M3,F3,N8,B3,a,l,ts,_,me,"set",U,r2,ee.hd,U,_,U,bx (b_ U) ?_⟩;refine⟨λσ' O=>∃(v3:Option V)(d:VA),σ'=[some<|.ref a,some<|.int (w:Nat),some<|.ref I,v3]/\Qs C O a l ts (k+(bS<|s.take<|i+1).length) me/\Qc a H O/\O I=some (.lst d)/\d.length=i+1/\Paired (λv g=>Ro O g v) d (s.take<|i+1),λσ' O⟨v3,d,a1,a2,a3,a4,a5,a6⟩=>⟨s.length-(i+1),zo,i+1,v3,d,Oh,U,a1,a2,a3,a4,a5,a6⟩,?_⟩;refine yu (t:=uG _ _) λD1 N1=>?_;refine put λD2 N=>?_;refine⟨_,U,a,WG,C,f4,_,Zt,1,[Ui],_,U,VD,U,T.cl,M4,F4,N8,B4,a,l,ts,_,me,"set",U,r2,ee.hd,λD r3 b3=>?_⟩;refine N _ _ ?_;clear N D2;refine put λD2 N=>?_;have el:=b3.kt VD;have e3:=b3 _ _ e2 YB;have Y:=bq (λ_ _ h=>Ro.kt el h) Od;refine⟨_,U,I,U,⟨_,P8.of e3⟩,?_⟩;refine gE (K:=K) (a:=I) (xs:=d) (λj ys O=>O=D/\ys=(((s.take i).take j).map λg=>!g.isCell).map V.bl) ⟨U,U⟩ (λj ys O hj⟨a1,a2⟩=>by
     subst a1 a2;refine⟨P8.of e3,?_⟩;rw[Me,Me,Mp,Mp];lia) ?_ ?_
   ·rintro j u ys O hu ⟨rfl,rfl⟩;obtain⟨y,hy,hv⟩:=fh Y hu;obtain⟨p,r,rfl,hp⟩:=hv.at;refine⟨trivial,eO ?_⟩;refine⟨_,U,p,_,_,_,U,U,P5.of hp,aZ,U,?_⟩;rw[Au];refine Nx.mk (Mc.mp hu).1 ⟨U,?_⟩;rw[MW (l:=s.take i),hy,Mq,Mq];rfl
   rintro ys O ⟨rfl,rfl⟩ lq ZL;have es:(s.take i).take d.length=s.take i:=Nd (by rw[Mp];lia);rw[es];have s4:=ag (o:=.lst (((s.take i).map λg=>!g.isCell).map V.bl)) ZL;refine⟨lq,_,U,P8.of aa,?_⟩;have e4:=s4 _ _ e3;have r4:=r3.same s4;have ei:=bq (λ_ _ h=>Ro.kt (ak s4) h) Y;generalize aB O lq (.lst<|((s.take i).map λg=>!g.isCell).map V.bl)=G at*;have eh:g.isCell=true->((s.take i).map λg=>!g.isCell).all id=true:=by
    intro hc;rw[N6,MT];intro x hx;obtain⟨jj,hj⟩:=List.getElem?_of_mem hx;have Ya:jj<(s.take i).length:=(Mc.mp hj).1;rw[Mp]at Ya;rw[Ud zo]at hj;show(!x.isCell)=true;cases hxc:x.isCell with
    |false=>rfl
    |true=>
     have:=hU jj i x g hj hg hxc hc;lia
   have YK:Qc a H2 G:=b3.same s4;refine N _ _ ?_;clear N D2;refine⟨_,U,.inl ⟨U,_,P8.of e4⟩,_,U,_,U,_,U,a,l,ts,k+(bS<|s.take i).length+1,me,g,w,_,U,hw,eh,r4,ee.tl.l,hG g ed,λv5 H5 r5 b5 et=>?_⟩;obtain⟨Ye,WN⟩:=r4.ob;have e5:=b5 _ _ e4 YB;have L:=b5.kt WN;refine⟨I,d,_,U,U,e5,zo,?_⟩;have k6:=xc (ys:=d++[v5]) e5;obtain⟨YJ,W6⟩:=r5.ob;have N7:k+(bS<|s.take<|i+1).length=k+(bS<|s.take i).length+1+(jN g).length:=by
    rw[Yd,lA];show k+(bS (s.take i)++(("set":Str)::(jN g++[]))).length=_;simp;lia
   refine N1 _ _ ?_;refine⟨_,d++[v5],U,?_,?_,aa,by simp[lu],?_⟩
   ·rw[N7];refine⟨⟨YJ,by rw[al<|F_ YB];exact W6⟩,by rw[al ec];exact r5.tk,r5.le⟩
   ·intro b o eb nb;rw[al<|au eb nn];exact b5 _ _ (YK _ _ (b2 _ _ eb nb) nb) nb
   ·rw[Yd];exact fF (R:=λv g=>Ro (aB H5 I<|.lst<|d++[v5]) g v) (Ro.kt k6 et) (bq (R:=λv g=>Ro G g v) (λ_ _ h=>Ro.kt k6<|Ro.kt L h) ei)
  ·have YF:i=s.length:=by lia
   subst YF;rw[MD]at Od r2;have ea:At ts (k+(bS s).length) (gX e):=hA.r;have B':nF C [.ref a] H2 (λew D=>Q ew D) E0->True:=λ_=>trivial;have cont:∀D,D=H2->(∃p ys,[V.ref I]=[.ref p]/\((P8 K D p ys/\∀t,D t=none->nF C [.ref a] (aB D t<|.tup ys) (λv4 G=>3<=sizeLine/\∀p,G p=none->Q (.ref p) (aB G p<|.tup [.str Vk,.ref t,v4])) E0)\/(P5 K D p ys/\False))):=by
    rintro D rfl;refine⟨I,d,U,.inl ⟨P8.of e2,λt nt=>?_⟩⟩;generalize zz:aB D t _=G;have s3:=(nw nt zz).1;have e3:G t=some (.tup d):=(nw nt zz).2;clear zz;have WE:=s3 _ _ VD;refine⟨a,l,ts,_,me,e,U,r2.same s3,ea,hE,λv5 H5 r5 b5 et=>⟨Qa,λp np=>?_⟩⟩;have s6:=ag (o:=.tup [.str Vk,.ref t,v5]) np;have L:=b5.kt WE;have N7:k+(bS s++gX e).length=k+(bS s).length+(gX e).length:=by
     rw[Md];lia
    refine q _ _ (by rw[N7];exact r5.same s6) (((b2.same s3).trans b5).same s6) ⟨p,t,d,v5,U,aa,s6 _ _<|L _ _ e3,bq (λ_ _ h=>Ro.kt (ak s6)<|Ro.kt L<|Ro.kt (ak s3) h) Od,et.kt<|ak s6⟩
   refine bE (λ_=>?_) (λ_=>cD ?_)
   ·refine⟨_,U,a,WG,C,f3,_,VW,1,[Ui],_,U,VD,U,T.cl,M3,F3,N8,B3,a,l,ts,_,me,CG e,U,r2,Aq ea,U,_,U,aY (c_ λh=>yC hE<|V.str.inj h) ?_⟩;obtain⟨p,ys,h1,h2⟩:=cont H2 rfl;rcases h2 with⟨h2,J⟩|⟨_,J⟩
    ·exact⟨_,U,p,ys,h1,.inl ⟨h2,λt nt=>⟨_,U,J t nt⟩⟩⟩
    ·exact J.elim
   ·obtain⟨p,ys,h1,h2⟩:=cont H2 rfl;rcases h2 with⟨h2,J⟩|⟨_,J⟩
    ·exact⟨_,U,p,ys,h1,.inl ⟨h2,λt nt=>⟨_,U,J t nt⟩⟩⟩
    ·exact J.elim
def DC:ax [Um] [Um] (aj kO):=cP zk
def Aw(F:Qj K "read_test" "read_test" kO f fd)(T:uD P w K mg M C):P7 P w K mg M ce 3 f fd [Um] (qH C):=by
 have ZZ:=DC
 walk_at "o"
 ·obtain⟨a,l,i,k,D,t,z,rfl,I,hA,Z,q⟩:=h;refine⟨_,ae (aP (bY aR (aX<|pv 0) ah) (ai<|ao<|aw<|bj (aX<|pv 0)<|aX<|pv 0) ay)
   (ai<|ao<|aw<|bj ah<|aX<|pv 0),?_⟩
  obtain⟨f2,Wc,M2,F2,B2⟩:=T.nname;obtain⟨f3,VW,M3,F3,B3⟩:=T.look;obtain⟨f4,Zt,M4,F4,B4⟩:=T.take;obtain⟨Y,G⟩:=I.ob;cases t with
  |true=>
   have O:At i k [(UW:Str),z]:=hA;refine⟨_,U,a,Y,C,f3,_,VW,1,[Ui],_,U,G,U,T.cl,M3,F3,hr.m,B3,a,l,i,k,D,UW,U,I,O.hd,U,_,U,bx (b_ U) ?_⟩;refine⟨_,U,a,Y,C,f4,_,Zt,1,[Ui],_,U,G,U,T.cl,M4,F4,hr.m,B4,a,l,i,k,D,UW,U,I,O.hd,λR d N=>?_⟩;obtain⟨WS,VO⟩:=d.ob;refine⟨_,U,a,WS,C,f2,_,Wc,2,[Ui],_,U,VO,U,T.cl,M2,F2,hr,B2,a,l,i,k+1,D,z,U,d,O.tl.hd,Z,λj r J=>⟨Qa,λp np=>?_⟩⟩;have L:=ag (o:=.tup [.str UW,.str z]) np;exact q _ _ (r.same L) ((N.trans J).same L) ⟨p,U,aa⟩
  |false=>
   have O:At i k [z]:=hA;have Oe:z≠UW:=λe=>by
    have:=Z.1;rw[e]at this;exact this zk
   refine⟨_,U,a,Y,C,f3,_,VW,1,[Ui],_,U,G,U,T.cl,M3,F3,hr.m,B3,a,l,i,k,D,z,U,I,O.hd,U,_,U,aY (c_ λh=>Oe<|V.str.inj h) ?_⟩;refine⟨_,U,a,Y,C,f2,_,Wc,2,[Ui],_,U,G,U,T.cl,M2,F2,hr,B2,a,l,i,k,D,z,U,I,O.hd,Z,λj r J=>⟨Qa,λp np=>?_⟩⟩;have L:=ag (o:=.tup [.str Vf,.str z]) np;exact q _ _ (r.same L) (J.same L) ⟨p,U,aa⟩
def Q2:ax [Um,Uj,UY,"test","yes"] [Um,Uj,UY] (aj il):=cP zk
def Rj.kt{H q:Hp}(k:Qi H q){t:Bool}{z:Str}(h:Rj H t z v):Rj q t z v:=let⟨p,a,b⟩:=h;⟨p,a,k _ _ b⟩
variable{m:Nat}
def jo(F:Qj K "read_choice" "read_choice" il f fd)(T:uD P w K mg M C)(Z:Fn P w K mg M "read_test" 3 [Um] (qH C))(BD:Fn P w K mg M "read_body" n [Um,Uj,UY] (mm C m))(hn:3<=n):P7 P w K mg M ce (n+1) f fd [Um,Uj,UY] (lj C<|m+1):=by
 have ZZ:=Q2
 walk_at "o"
 ·obtain⟨a,l,i,k,G,t,z,y,J,w,c,rfl,d,hw,hR,hA,hN,hY,hM,q⟩:=h;have N9:P9 2 _:=hr.mono zo;have V':P9 3 _:=hr.mono zo;refine⟨_,ae (aL<|br (pv 0)<|aV<|aw<|aV ah)
   (ae (bP 3 Q2.nd<|ap Z V' U<|aV<|pv 0)
   (ae (bP 4 Q2.nd<|ap BD hr U<|du (pv 0) (pv 1)<|pv 2)
   (ae (aL<|br (pv 0)<|aV<|aw<|aV ah)
   (ai<|ao<|aw<|jF ah (pv 3) (pv 4)<|ap BD hr U<|du (pv 0) (pv 1)<|pv 2)))),?_⟩
  obtain⟨f1,Oa,M1,F1,B1⟩:=T.need;obtain⟨dx,ho⟩:=hR.ob;have VG:At i k ((Vf:Str)::(dM t z++(dz y++(Vb:Str)::dz J))):=hA;have W7:=VG.tl.r;have D:=W7.r;refine⟨_,U,a,dx,C,f1,_,Oa,2,[Ui,UG],_,U,ho,U,T.cl,M1,F1,N9,B1,Qa,λp1 n1=>?_⟩;have N:=ag (o:=.tup [.str Vf]) n1;refine⟨a,l,i,k,G,Vf,p1,[Vf],U,hR.same N,VG.hd,.inr<|P5.of aa,Mf,λB r1 b1=>?_⟩;have Y3:Qc a H B:=(bR N).trans b1;refine⟨_,U,a,l,i,k+1,G,t,z,U,r1,VG.tl.l,hN,λu H2 j b2 v2=>?_⟩;obtain⟨WG,VD⟩:=j.ob;refine⟨_,U,_,U,_,U,a,l,i,k+1+(dM t z).length,G,y,w,c,U,d,hw,j,W7.l,hY,λx H3 r3 b3 v3=>?_⟩;obtain⟨X1,WE⟩:=r3.ob;refine⟨_,U,a,X1,C,f1,_,Oa,2,[Ui,UG],_,U,WE,U,T.cl,M1,F1,N9,B1,Qa,λp4 n4=>?_⟩;have s4:=ag (o:=.tup [.str Vb]) n4;refine⟨a,l,i,k+1+(dM t z).length+(dz y).length,G,Vb,p4,[Vb],U,r3.same s4,D.hd,.inr<|P5.of aa,Mf,λH5 r5 b5=>?_⟩;have I:Qc a H3 H5:=(bR s4).trans b5;obtain⟨YJ,W6⟩:=r5.ob;refine⟨_,U,_,U,_,U,_,U,_,U,a,l,i,k+1+(dM t z).length+(dz y).length+1,G,J,w,c,U,d,hw,r5,D.tl,hM,λR H6 r6 b6 v6=>⟨Qa,λp np=>?_⟩⟩;have s7:=ag (o:=.tup [.str Vf,u,x,R]) np;have O:=ak s7;have Y:=b6.kt W6;have L:=I.kt WE;have N7:k+(DA<|.ite t z y J).length=k+1+(dM t z).length+(dz y).length+1+(dz J).length:=by
   show k+((Vf:Str)::(dM t z++(dz y++(Vb:Str)::dz J))).length=_;simp;lia
  refine q _ _ (by rw[N7];exact r6.same s7) (((((Y3.trans b2).trans b3).trans I).trans b6).same s7) ⟨p,u,x,R,U,aa,?_,?_,?_⟩
  ·exact((((v2.kt<|b3.kt VD).kt L).kt Y).kt O)
  ·exact((v3.kt L).kt Y).kt O
  ·exact v6.kt O
def Ry:ax [Um,Uj,UY,Vp] [Um,Uj,UY] (aj kN):=cP zk
def xf{w m:Nat}{s:List Gs}(h:fE w m (.leaf s e)):fE w 0 (.leaf s e):=by cases m<;>exact h
inductive Ax(a:Vr)(w:Nat)(c:Vr)(C:Vr)(l:Vr)(o:Vx)(k:Nat)(b:Bd)(me:Bool)(H:Hp)(i:St)(t:Hp):Prop
 |mk(u:_):i=[some<|.ref a,some<|.int (w:Nat),some<|.int (c:Nat),some u]->Qs C t a l o (k+1+(DA b).length) me->Qc a H t->Se t b u->Ax a w c C l o k b me H i t
def jQ(F:Qj K "read_body" "read_body" kN f fd)(T:uD P w K mg M C)(Z:vK K mg aS aE aF t1 t2 t3 t4)(CH:Fn P w K mg M "read_choice" n [Um,Uj,UY] (lj C m))(LF:Fn P w K mg M "read_leaf" n [Um,Uj] (qF C))(hn:3<=n):P7 P w K mg M ce (n+1) f fd [Um,Uj,UY] (mm C m):=by
 have ZZ:=Ry
 walk_at "o"
 ·obtain⟨a,l,i,k,O,b,w,c,rfl,hc,hw,hR,hA,hB,q⟩:=h;have N8:P9 1 _:=hr.mono zo;have N9:P9 2 _:=hr.mono zo;refine⟨_,ae (aL<|br (pv 0)<|aV<|aw<|aV ah)
   (bH (Ax a w c C l i k b O H) (aP (c6 (λ_ J=>(Qs C J a l i (k+1) O/\Qc a H J)/\∃t z y n,b=.ite t z y n) (λ_ J=>(Qs C J a l i (k+1) O/\Qc a H J)/\∃s e,b=.leaf s e)<|PW.pt<|bW (bY eR (pv 2)<|bf (v:=.int 3) U Z.mc ⟨_,U⟩)<|bG<|bY aR (aX<|pv 0) ah)
     (ai<|bP 3 Ry.nd<|ap CH hr U<|du (pv 0) (pv 1)<|az bM (pv 2) af)
     (ai<|bP 3 Ry.nd<|ap LF hr U<|bj (pv 0)<|pv 1))
   (ae (aL<|br (pv 0)<|aV<|aw<|aV ah)
   (ai<|ao<|pv 3))),?_⟩
  obtain⟨f1,Oa,M1,F1,B1⟩:=T.need;obtain⟨f3,VW,M3,F3,B3⟩:=T.look;obtain⟨dx,ho⟩:=hR.ob;rw[As]at hA;have W7:=hA.tl;refine⟨_,U,a,dx,C,f1,_,Oa,2,[Ui,UG],_,U,ho,U,T.cl,M1,F1,N9,B1,Qa,λp1 n1=>?_⟩;have N:=ag (o:=.tup [.str "{"]) n1;refine⟨a,l,i,k,O,"{",p1,["{"],U,hR.same N,hA.hd,.inr<|P5.of aa,Mf,λB L b1=>?_⟩;have Y3:Qc a H B:=(bR N).trans b1;refine⟨?_,?_,?_,?_⟩
  ·intro σ j z;obtain⟨u,rfl,Y,d,v2⟩:=z;obtain⟨WG,VD⟩:=Y.ob;refine⟨_,U,a,WG,C,f1,_,Oa,2,[Ui,UG],_,U,VD,U,T.cl,M1,F1,N9,B1,Qa,λp3 n3=>?_⟩;have R:=ag (o:=.tup [.str "}"]) n3;refine⟨a,l,i,k+1+(DA b).length,O,"}",p3,["}"],U,Y.same R,W7.r.hd,.inr<|P5.of aa,Mf,λH4 r4 b4=>?_⟩;have YK:Qc a j H4:=(bR R).trans b4;have N7:k+(dz b).length=k+1+(DA b).length+1:=by
    rw[As];simp;lia
   exact⟨_,U,q _ _ (by rw[N7];exact r4) (d.trans YK)<|v2.kt<|YK.kt VD⟩
  ·intro j z;obtain⟨⟨Y,d⟩,t,z,y,p,rfl⟩:=z;cases m with
   |zero=>exact absurd hB (by simp[fE])
   |succ m=>
    obtain⟨h1,h2,h3⟩:=hB;refine⟨_,U,_,U,_,U,_,_,U,U,a,l,i,k+1,O,t,z,y,p,w,c+1,U,zo,hw,Y,W7.l,h1,h2,h3,λv3 H3 r3 b3 D=>?_⟩;exact⟨v3,U,r3,d.trans b3,D⟩
  ·intro j z;obtain⟨⟨Y,d⟩,G,e,rfl⟩:=z;refine⟨_,U,_,U,a,l,i,k+1,O,G,e,w,U,hw,Y,W7.l,xf hB,λv3 H3 r3 b3 D=>?_⟩;exact⟨v3,U,r3,d.trans b3,D⟩
  ·obtain⟨WS,VO⟩:=L.ob;refine⟨_,U,_,_,U,U,_,U,?_⟩;cases b with
   |ite t z y p=>
    have hm:m≠0:=by
     rintro rfl;simp[fE]at hB
    have ea:At i (k+1) ((Vf:Str)::(dM t z++(dz y++(Vb:Str)::dz p))):=W7.l;refine bx (b_ zo) ⟨_,U,a,WS,C,f3,_,VW,1,[Ui],_,U,VO,U,T.cl,M3,F3,N8,B3,a,l,i,k+1,O,Vf,U,L,ea.hd,U,_,U,bx (b_ U) ⟨⟨L,Y3⟩,t,z,y,p,U⟩⟩
   |leaf G e=>
    refine bE (λ_=>?_) (λ_=>cD ⟨⟨L,Y3⟩,G,e,U⟩);have ee:At i (k+1) (bS G++gX e):=W7.l;have et:∃tk,(tz i)[k+1]?=some tk/\tk≠Vf:=by
     cases G with
     |nil=>
      have I:At i (k+1) (gX e):=ee;have hE:qA e:=(xf hB).2.2.2;refine⟨_,Aq I,λh=>?_⟩;have:=qG hE;rw[h]at this;revert this;decide +kernel
     |cons g r=>
      have I:At i (k+1) ((("set":Str)::(jN g++bS r))++gX e):=ee;exact⟨_,I.hd,zk⟩
    obtain⟨tk,ei,Oe⟩:=et;refine⟨_,U,a,WS,C,f3,_,VW,1,[Ui],_,U,VO,U,T.cl,M3,F3,N8,B3,a,l,i,k+1,O,tk,U,L,ei,U,_,U,aY (c_ λh=>Oe<|V.str.inj h) ⟨⟨L,Y3⟩,G,e,U⟩⟩
end
def Qp.kt(k:Qi H e)(h:Qp H u x):Qp e u x:=let⟨p,a,b⟩:=h;⟨p,a,k _ _ b⟩
def vN(t:Vx)(k:Nat)(e:Vz):Prop:=∀i(h:i<e.length),(tz t)[k+3*i]?=some e[i].1/\Qh e[i].1/\(tz t)[k+3*i+1]?=some e[i].2/\e[i].2∈ef/\(i+1<e.length->(tz t)[k+3*i+2]?=some ",")
inductive nI(C:Vr)(vs:VA)(H:Hp)(Q:VK)(r:XK):Prop
 |mk(a l o k me t:_):vs=[.ref a]->Qs C H a l o k me->(tz o)[k]?=some "("->vN o (k+1) t->(tz o)[k+1+(3*t.length-1)]?=some ")"->t.length<=3->(∀p i e,Qs C e a l o (k+2+(3*t.length-1)) me->Qc a H e->H p=none->e p=some (.tup i)->Paired (Qp e) i t->Q (.ref p) e)->nI C vs H Q r
structure FI(C:Vr)(H:Hp)(a l:Vr)(ts:Vx)(k:Nat)(me:Bool)(fs:Vz)(j:Nat)(lf:Vr)(H':Hp):Prop where
 rd:Qs C H' a l ts (k+(3*j-1)) me
 bt:Qc a H H'
 nf:H lf=none
 la:lf≠a
 ll:lf≠l
 ls:∃us,H' lf=some (.lst us)/\us.length=j/\Paired (Qp H') us (fs.take j)
section
def FI.more(I:FI C H a l m k me t j r d)(L:j<t.length)(Y:Qi d H4)(e4:H4 r=some (.lst i))(Z:i.length=j)(J:Paired (Qp d) i (t.take j))
  (q:Qs C H4 a l m (k+(3*(j+1)-1)) me) (O:Qc a d H4) (ep:H4 p=some (.tup [.str t[j].1,.str t[j].2])):FI C H a l m k me t (j+1) r (aB H4 r<|.lst<|i++[.ref p]):=by
 have k2:=xc (ys:=i++[V.ref p]) e4;refine⟨⟨?_,?_,q.le⟩,?_,I.nf,I.la,I.ll,i++[.ref p],aa,by simp[Z],?_⟩
 ·obtain⟨D,G⟩:=q.ob;exact⟨D,by rw[al I.la.symm];exact G⟩
 ·rw[al I.ll.symm];exact q.tk
 ·intro b o e z;by_cases h:b=r
  ·rw[h,I.nf]at e;cases e
  ·rw[al h];exact O _ _ (I.bt _ _ e z) z
 ·rw[MW,Mi L];exact fF ⟨p,U,k2 _ _ ep⟩ (bq (λ_ _ h=>(h.kt Y).kt k2) J)
def RG:ax [Um,U9] [Um] (aj ik):=cP zk
def yD(F:Qj K "read_fields" "read_fields" ik f fd)(T:uD P w K mg r C)(Z:vK K mg aS aE aF t1 t2 t3 t4)(B:Bl mg)(FL:Fn P w K mg r "read_field" 3 [Um] (qE C)):P7 P w K mg r ce 4 f fd [Um] (nI C):=by
 have ZZ:=RG
 walk_at "o"
 ·obtain⟨a,l,i,k,I,t,rfl,hR,h0,hf,X,h3,q⟩:=h;have sz:(1000:Nat)<=sizeLine:=by decide
  refine⟨_,ae (aL<|br (pv 0)<|aV<|aw<|aV ah)
   (ae (bP 1 RG.nd<|aM bN)
   (bH (λd G=>∃j O,j=min 1 t.length/\d=[some<|.ref a,some<|.ref O]/\FI C H a l i (k+1) I t j O G) (aP (bY mP (aX<|pv 0) ah) (ai<|aL<|cx Mw My Mx bu (pv 1)<|aV<|ap FL hr U<|aV<|pv 0) ay)
   (bH (λd G=>∃O,d=[some<|.ref a,some<|.ref O]/\FI C H a l i (k+1) I t t.length O G) (gk h_ (PW.pt<|bW (sh eR eR af (aC aT (by rfl) B.len MG<|aV<|pv 1)<|bf (v:=.int 3) U Z.mf ⟨_,U⟩)<|bG<|bY aR (aX<|pv 0) ah)
    (ae (aL<|aX<|pv 0)<|ai<|aL<|cx Mw My Mx bu (pv 1)<|aV<|ap FL hr U<|aV<|pv 0))
   (ae (aL<|br (pv 0)<|aV<|aw<|aV ah)
   (ai<|ao<|aU bQ (by rfl) B.tuple cu<|aV<|pv 1))))),?_⟩
  obtain⟨f1,Oa,M1,F1,B1⟩:=T.need;obtain⟨f2,Wc,M2,F2,B2⟩:=T.take;obtain⟨f3,VW,M3,F3,B3⟩:=T.look;obtain⟨dx,ho⟩:=hR.ob;refine⟨_,U,a,dx,C,f1,_,Oa,2,[Ui,UG],_,U,ho,U,T.cl,M1,F1,hr.m,B1,Qa,λp1 n1=>?_⟩;have s1:=ag (o:=.tup [.str "("]) n1;refine⟨a,l,i,k,I,"(",p1,["("],U,hR.same s1,h0,(.inr<|P5.of aa),by simp,λM r1 b1=>?_⟩;have c1:Qc a H M:=(bR s1).trans b1;obtain⟨WS,VO⟩:=r1.ob;refine⟨Qa,λO nf=>?_⟩;have s2:=ag (o:=.lst []) nf;have e2:(aB M O<|.lst []) O=some (.lst []):=aa;have nH:H O=none:=jO c1 VO nf;have eh:O≠a:=by
   rintro rfl;rw[nH]at ho;cases ho
  have er:O≠l:=λz=>by
   have:=hR.tk;rw[<-z,nH]at this;cases this
  have I0:FI C H a l i (k+1) I t 0 O (aB M O<|.lst []):=⟨r1.same s2,c1.same s2,nH,eh,er,[],e2,U,.nil⟩;generalize aB M O (.lst ([]:VA))=H2 at*;refine⟨?_,?_⟩
  ·intro d H3 z;obtain⟨j0,O,ey,rfl,I3⟩:=z;refine⟨?_,?_⟩
   ·rintro d H4 ⟨O,rfl,I4⟩;obtain⟨N,e4,l4,p4⟩:=I4.ls;rw[MD]at p4;obtain⟨Ye,WN⟩:=I4.rd.ob;refine⟨_,U,a,Ye,C,f1,_,Oa,2,[Ui,UG],_,U,WN,U,T.cl,M1,F1,hr.m,B1,Qa,λp2 n2=>?_⟩;have s4:=ag (o:=.tup [.str ")"]) n2;refine⟨a,l,i,_,I,")",p2,[")"],U,I4.rd.same s4,X,(.inr<|P5.of aa),by simp,λH5 r5 b5=>?_⟩;have e5:=b5 _ _ (s4 _ _ e4) I4.la;have k5:=(ak s4).trans (b5.kt<|s4 _ _ WN);obtain⟨YJ,W6⟩:=r5.ob;have c5:Qc a H H5:=(I4.bt.same s4).trans b5;refine⟨_,U,O,N,U,.inl ⟨P8.of e5,λp3 n3=>?_⟩⟩;have s6:=ag (o:=.tup N) n3;refine q p3 N _ ?_ (c5.same s6) (jO c5 W6 n3) aa (bq (λ_ _ h=>(h.kt k5).kt<|ak s6) p4);have:=r5.same s6;have ee:k+1+(3*t.length-1)+1=k+2+(3*t.length-1):=by lia
    rw[ee]at this;exact this
   ·refine⟨λm d G=>∃j O,m=t.length-j/\j<=t.length/\(0<j\/t.length=0)/\d=[some<|.ref a,some<|.ref O]/\FI C H a l i (k+1) I t j O G,⟨_,j0,O,U,zo,zo,U,I3⟩,?_⟩;intro m d H5 z;obtain⟨j,O,rfl,hj,ev,rfl,L⟩:=z;obtain⟨N,e5,Y,p5⟩:=L.ls;obtain⟨YJ,W6⟩:=L.rd.ob;have done:j=t.length->∃et,[some<|V.ref a,some<|V.ref O]=[some<|V.ref a,some<|.ref et]/\FI C H a l i (k+1) I t t.length et H5:=λe=>⟨O,U,e▸L⟩;by_cases el:0<j
    ·by_cases Oh:j<t.length
     ·refine⟨_,U,O,_,U,.inl<|P8.of e5,_,_,U,U,_,U,bx (b_<|by rw[Y];lia) ⟨_,_,U,U,_,U,bx (b_<|by rw[Y];lia) ?_⟩⟩;obtain⟨_,_,_,_,ei⟩:=hf (j-1) zo;have J:(tz i)[k+1+(3*j-1)]?=some ",":=by
       have:=ei zo;rw[show k+1+3*(j-1)+2=k+1+(3*j-1)by lia]at this;exact this
      refine⟨_,U,a,YJ,C,f3,_,VW,1,[Ui],_,U,W6,U,T.cl,M3,F3,hr.m,B3,a,l,i,_,I,",",U,L.rd,J,U,_,U,bx zk ?_⟩;refine⟨λR G=>R=[some<|.ref a,some<|.ref O]/\FI C H a l i (k+1) I t (j+1) O G,λR G⟨e1,e2⟩=>⟨_,zo,j+1,O,U,zo,zo,e1,e2⟩,_,U,a,YJ,C,f2,_,Wc,1,[Ui],_,U,W6,U,T.cl,M2,F2,hr.m,B2,a,l,i,_,I,",",U,L.rd,J,λH6 r6 b6=>?_⟩;obtain⟨ec,en⟩:=r6.ob;have e6:=b6 _ _ e5 L.la;obtain⟨g1,g2,g3,g4,_⟩:=hf j Oh;have ek:k+1+(3*j-1)+1=k+1+3*j:=by lia
      rw[ek]at r6;refine⟨_,U,.inl ⟨U,_,P8.of e6⟩,_,U,a,l,i,_,I,t[j],U,r6,g1,g2,g3,g4,λp H7 r7 b7 np ep=>?_⟩;have e7:=b7 _ _ e6 L.la;have ea:k+1+3*j+2=k+1+(3*(j+1)-1):=by lia
      rw[ea]at r7;exact⟨O,N,_,U,U,e7,by rw[Y];lia,U,L.more Oh ((b6.kt W6).trans<|b7.kt en) e7 Y p5 r7 (b6.trans b7) ep⟩
     ·have D:j=t.length:=by lia
      have Xq:(tz i)[k+1+(3*j-1)]?=some ")":=by rw[D];exact X
      by_cases ew:j<3
      ·refine⟨_,U,O,_,U,.inl<|P8.of e5,_,_,U,U,_,U,bx (b_<|by rw[Y];lia) ⟨_,_,U,U,_,U,bx (b_<|by rw[Y];lia) ?_⟩⟩;refine⟨_,U,a,YJ,C,f3,_,VW,1,[Ui],_,U,W6,U,T.cl,M3,F3,hr.m,B3,a,l,i,_,I,")",U,L.rd,Xq,U,_,U,aY zk<|done D⟩
      ·refine⟨_,U,O,_,U,.inl<|P8.of e5,_,_,U,U,_,U,bx (b_<|by rw[Y];lia) ⟨_,_,U,U,_,U,aY (c_<|by rw[Y];lia)<|cD<|done D⟩⟩
    ·have D:j=t.length:=by lia
     refine⟨_,U,O,_,U,.inl<|P8.of e5,_,_,U,U,_,U,aY (c_<|by rw[Y];lia) ⟨_,U,cD<|cD<|done D⟩⟩
  ·obtain⟨WG,VD⟩:=I0.rd.ob;by_cases hz:0<t.length
   ·obtain⟨g1,g2,g3,g4,_⟩:=hf 0 hz;have ed:t[0].1≠(")":Str):=by
     intro z;obtain⟨_,_,_,hc⟩:=g2;rw[z]at hc;exact absurd (hc 41 zk) zo
    refine⟨_,U,a,WG,C,f3,_,VW,1,[Ui],_,U,VD,U,T.cl,M3,F3,hr.m,B3,a,l,i,_,I,t[0].1,U,I0.rd,g1,U,_,U,bx (by simpa using ed) ?_⟩;refine⟨_,U,.inl ⟨U,_,P8.of e2⟩,_,U,a,l,i,_,I,t[0],U,I0.rd,g1,g2,g3,g4,λp H7 r7 b7 np ep=>?_⟩;have e7:=b7 _ _ e2 I0.la;exact⟨O,[],_,U,U,e7,by show 0<sizeLine;decide,1,O,zo,U,I0.more hz (b7.kt VD) e7 U .nil r7 b7 ep⟩
   ·have es:t.length=0:=by lia
    have Xq:(tz i)[k+1+(3*0-1)]?=some ")":=by rw[es]at X;exact X
    refine⟨_,U,a,WG,C,f3,_,VW,1,[Ui],_,U,VD,U,T.cl,M3,F3,hr.m,B3,a,l,i,_,I,")",U,I0.rd,Xq,U,_,U,aY (by simp) ?_⟩;exact⟨0,O,zo,U,I0⟩
end
structure Kn where
 name:Str
 fs:Vz
 bd:Bd
 dd:Dd
inductive QV(H:Hp)(u:V)(x:Kn):Prop
 |mk(p tf b e:_):u=.ref p->H p=some (.tup [.str x.name,.ref tf,b])->H tf=some (.tup e)->Paired (Qp H) e x.fs->Se H x.bd b->QV H u x
def QV.kt(k:Qi H t)(h:QV H u x):QV t u x:=by obtain⟨p,q,b,o,a,c,d,e,f⟩:=h;exact ⟨p,q,b,o,a,k _ _ c,k _ _ d,bq (λ_ _ h=>h.kt k) e,f.kt k⟩
def yE(x:Kn):Nat:=4+(3*x.fs.length-1)+(dz x.bd).length
structure vO(ts:Vx)(w k:Nat)(x:Kn):Prop where
 t0:(tz ts)[k]?=some Uv
 t1:(tz ts)[k+1]?=some x.name
 nm:Qh x.name
 t2:(tz ts)[k+2]?=some "("
 fl:vN ts (k+3) x.fs
 t3:(tz ts)[k+3+(3*x.fs.length-1)]?=some ")"
 le:x.fs.length<=3
 bt:At ts (k+4+(3*x.fs.length-1)) (dz x.bd)
 bo:fE w 3 x.bd
inductive vP(C:Vr)(vs:VA)(H:Hp)(Q:VK)(o:XK):Prop
 |mk(a l t k me x:_)(w:Nat):vs=[.ref a,.int w]->w<=24->Qs C H a l t k me->vO t w k x->(∀u e,Qs C e a l t (k+yE x) me->Qc a H e->QV e u x->Q u e)->vP C vs H Q o
section
def RX:ax [Um,Uj,"name",U9] [Um,Uj] (aj kM):=cP zk
def DD(F:Qj K "read_kind" "read_kind" kM f j)(T:uD P w K i e C)(FS:Fn P w K i e "read_fields" 4 [Um] (nI C))(BD:Fn P w K i e "read_body" n [Um,Uj,UY] (mm C 3))(hn:4<=n):P7 P w K i e ce (n+1) f j [Um,Uj] (vP C):=by
 have ZZ:=RX
 walk_at "o"
 ·obtain⟨a,l,t,k,I,x,w,rfl,hw,G,z,q⟩:=h;have L:P9 2 _:=hr.mono zo;have X9:P9 4 _:=hr.mono zo;refine⟨_,ae (aL<|br (pv 0)<|aV<|aw<|aV ah)
   (ae (bP 2 RX.nd<|aX<|pv 0)
   (ae (bP 3 RX.nd<|ap FS X9 U<|aV<|pv 0)
   (ai<|ao<|aw<|du (pv 2) (pv 3)<|ap BD hr U<|du (pv 0) (pv 1) af))),?_⟩
  obtain⟨f1,Oa,M1,F1,B1⟩:=T.need;obtain⟨f2,Wc,M2,F2,B2⟩:=T.nname;obtain⟨p,N⟩:=G.ob;refine⟨_,U,a,p,C,f1,_,Oa,2,[Ui,UG],_,U,N,U,T.cl,M1,F1,L,B1,Qa,λB M=>?_⟩;have r:=ag (o:=.tup [.str Uv]) M;refine⟨a,l,t,k,I,Uv,B,[Uv],U,G.same r,z.t0,(.inr<|P5.of aa),by simp,λH1 Z d=>?_⟩;obtain⟨WS,VO⟩:=Z.ob;refine⟨_,U,a,WS,C,f2,_,Wc,2,[Ui],_,U,VO,U,T.cl,M2,F2,L,B2,a,l,t,k+1,I,x.name,U,Z,z.t1,z.nm,λH2 X m=>?_⟩;refine⟨_,U,a,l,t,k+2,I,x.fs,U,X,z.t2,z.fl,z.t3,z.le,λtf us H3 D b3 nf v p3=>?_⟩;obtain⟨X1,WE⟩:=D.ob;have ek:k+2+2+(3*x.fs.length-1)=k+4+(3*x.fs.length-1):=by lia
  rw[ek]at D;refine⟨_,U,_,U,_,U,_,U,a,l,t,k+4+(3*x.fs.length-1),I,x.bd,w,0,U,U,hw,D,z.bt,z.bo,λu H4 r4 Y R=>⟨Qa,λpt ZK=>?_⟩⟩;have O:=ag (o:=.tup [.str x.name,.ref tf,u]) ZK;have J:=Y.kt WE;have r5:=r4.same O;rw[show k+4+(3*x.fs.length-1)+(dz x.bd).length=k+yE x by unfold yE;lia]at r5;exact q _ _ r5 ((((((bR r).trans d).trans m).trans b3).trans Y).same O) ⟨pt,tf,u,us,U,aa,O _ _<|J _ _ v,bq (λ_ _ h=>(h.kt J).kt<|ak O) p3,R.kt<|ak O⟩
abbrev vQ:Stmt:=dk fA 0
inductive qI(C:Vr)(vs:VA)(H:Hp)(Q:VK)(o:XK):Prop
 |mk(x i lt t:_):vs=[.ref x,.ref lt]->H x=some (.ins C i [])->H lt=some (.lst<|am t)->t.length<=1500->(∀l e,Qs C e x l t 0 true->Qc x H e->Q .non e)->qI C vs H Q o
def DF:ax [Ui,UM] [Ui,UM] (aj vQ):=cP zk
end
def DG(h:e.length<=1500):i8 e none (some 1500)=e:=by
 have e1:HT.sIx e.length 0 none=0:=rfl;have e2:HT.sIx e.length e.length (some 1500)=e.length:=by
  simp only[HT.sIx];rw[f_ zd];show min 1500 e.length=e.length;lia
 unfold i8;rw[e1,e2];simp
section
def Ay(F:Qj K "__init__" "Reader.__init__" vQ f M)(T:Rc K C)(B:Bl p)(m:p "MOST_TOKENS"=some (.int 1500 t5)):P7 P w K p d ce 1 f M [Ui,UM] (qI C):=by
 have ZZ:=DF
 walk_at "o"
 ·obtain⟨x,z,lt,t,rfl,D,G,I,q⟩:=h;refine⟨_,ae (fv (pv 0) (az eK (cI iC (pv 1) fP<|cz<|bf (v:=.int 1500) U m ⟨_,U⟩)<|aM<|aV ah) U)
   (ae (fv (pv 0) af U)<|ai<|fv (pv 0) (uC jD (aC aT (by rfl) B.len MG<|aV<|pv 1)<|bf (v:=.int 1500) U m ⟨_,U⟩) U),?_⟩
  have lv:(am t).length<=1500:=by unfold am;rw[Me];exact I
  have sz:(10000:Nat)<=sizeLine:=by decide
  refine⟨_,U,_,U,lt,_,U,P8.of G,λi j=>?_⟩;rw[DG lv];generalize zz:aB H i _=Y;have s1:=(nw j zz).1;have e1:Y i=some (.lst<|am t):=(nw j zz).2;clear zz;refine⟨Qa,λr n2=>?_⟩;have N:=ag (o:=.lst [.str ""]) n2;have Og:=s1.trans N;refine⟨i,r,_,_,U,U,N _ _ e1,aa,by show _+1<=_;lia,λl nl=>?_⟩;have s3:=ag (o:=.lst (am t++[.str ""])) nl;have O:=Og.trans s3;have el:(aB (aB Y r<|.lst [.str ""]) l<|.lst<|am t++[.str ""]) l=some (.lst<|am<|t++[("":Str)]):=by
   rw[aa];unfold am;rw[Mq];rfl
  have ee:H l=none:=Og.free nl;generalize aB (aB Y r<|.lst [V.str ""]) l (.lst<|am t++[V.str ""])=R at*;have Z:l≠x:=by
   rintro rfl;rw[ee]at D;cases D
  have L:lt≠x:=by
   rintro rfl;rw[G]at D;cases D
  refine⟨_,U,x,C,z,_,U,O _ _ D,T.cl,T.n1,(by show 0<1000;decide),_,U,x,C,z,_,U,aa,T.cl,T.n2,(by show 1<1000;decide),?_⟩;have J:(aB (aB R x<|.ins C z<|aN UM (.ref l) []) x<|.ins C z<|aN Vj (.int 0)<|aN UM (.ref l) []) lt=some (.lst<|am t):=by rw[al L,al L];exact O _ _ G
  refine⟨_,U,lt,_,U,.inl<|P8.of J,_,_,U,U,_,U,x,C,z,_,U,aa,T.cl,T.n3,(by show 2<1000;decide),?_⟩;have X:decide (((am t).length:Int)<=1500)=true:=b_ zo;have eF:(aN "may_end" (.bl<|decide (((am t).length:Int)<=1500))<|aN Vj (.int 0)<|aN UM (.ref l) [])=CF l 0 true:=by rw[X];rfl
  refine q l _ ⟨⟨z,?_⟩,?_,I⟩ ?_
  ·rw[aa];exact e_ some (e_ (HO.ins C z) eF)
  ·rw[al Z,al Z,al Z];exact el
  ·intro b o e nb;rw[al nb,al nb,al nb];exact O _ _ e
end
structure Fm where
 width:Nat
 cells:Nat
 depth:Nat
 places:Vx
 marks:Vx
 gates:Vx
 kinds:List Kn
def mo(e:Vx)(w:Nat):Nat->List Kn->Prop
 |k,[]=>k=e.length
 |k,x::r=>vO e w k x/\mo e w (k+yE x) r
structure qJ(ts:Vx)(D:Fm):Prop where
 a0:(tz ts)[0]?=some (UI:Str)
 a1:(tz ts)[1]?=some (toString (D.width:Int):Str)
 a2:(tz ts)[2]?=some (";":Str)
 a3:(tz ts)[3]?=some (Uo:Str)
 a4:(tz ts)[4]?=some (toString (D.cells:Int):Str)
 a5:(tz ts)[5]?=some (";":Str)
 a6:(tz ts)[6]?=some (Uq:Str)
 a7:(tz ts)[7]?=some (toString (D.depth:Int):Str)
 a8:(tz ts)[8]?=some (";":Str)
 a9:(tz ts)[9]?=some (Ul:Str)
 pn:sV ts 10 D.places
 pe:(tz ts)[10+D.places.length]?=some (";":Str)
 m9:(tz ts)[11+D.places.length]?=some (Up:Str)
 mn:sV ts (12+D.places.length) D.marks
 me:(tz ts)[12+D.places.length+D.marks.length]?=some (";":Str)
 g9:(tz ts)[13+D.places.length+D.marks.length]?=some (UD:Str)
 gn:sV ts (14+D.places.length+D.marks.length) D.gates
 ge:(tz ts)[14+D.places.length+D.marks.length+D.gates.length]?=some (";":Str)
 ks:mo ts D.width (15+D.places.length+D.marks.length+D.gates.length) D.kinds
 bw:4<=D.width/\D.width<=24
 bc:4<=D.cells/\D.cells<=64
 bd:D.depth<=8
 bp:1<=D.places.length/\D.places.length<=4
 bm:D.marks.length<=3
 bg:D.gates.length<=1
 bk:1<=D.kinds.length/\D.kinds.length<=8
inductive Az(H:Hp)(u:V)(D:Fm):Prop
 |mk(p pp pm pg pk e:_):u=.ref p->H p=some (.tup [.int D.width,.int D.cells,.int D.depth,.ref pp,.ref pm,.ref pg,.ref pk])->H pp=some (.tup<|am D.places)->H pm=some (.tup<|am D.marks)->H pg=some (.tup<|am D.gates)->H pk=some (.tup e)->Paired (QV H) e D.kinds->Az H u D
inductive vR(vs:VA)(H:Hp)(Q:VK)(o:XK):Prop
 |mk(lt t D:_):vs=[.ref lt]->H lt=some (.lst<|am t)->t.length<=1500->qJ t D->(∀u e,P4 H e->Az e u D->Q u e)->vR vs H Q o
def gx(q:H a=none)(i:P4 H Hc)(b:Qc a Hc t):P4 H t:=λc o e=>b c o (i c o e) (au e q)
structure KI(C:Vr)(Hc:Hp)(a l:Vr)(ts:Vx)(all done j':List Kn)(lk pp pm pg:Vr)(D:Fm)(H':Hp):Prop where
 sp:all=done++j'
 rd:∃k,Qs C H' a l ts k true/\mo ts D.width k j'
 bt:Qc a Hc H'
 nk:Hc lk=none
 la:lk≠a
 ll:lk≠l
 ep:H' pp=some (.tup<|am D.places)
 em:H' pm=some (.tup<|am D.marks)
 eg:H' pg=some (.tup<|am D.gates)
 ls:∃us,H' lk=some (.lst us)/\us.length=done.length/\Paired (QV H') us done
section
def QF:ax [UM,Um,Uj,Uo,Uq,Ul,Up,"gates",UE] [UM] (aj kL):=cP zk
def DH(F:Qj K "read_form" "read_form" kL f fd)(T:uD P w K j d C)(Z:vK K j aS aE aF t1 t2 t3 t4)(B:Bl j)(MK:Mk K C fi)(ta:j "Reader"=some (.ref C))(IN:P7 P w K j d ce 1 fi fdi [Ui,UM] (qI C))(bI:Qk K fdi [Ui,UM] [])
  (BO:Fn P w K j d "read_bounded" 4 [Um,UI,Vn,Vc] (kY C)) (NA:Fn P w K j d "read_names" 3 [Um,UI,"least","most"] (qy C)) (KD:Fn P w K j d "read_kind" n [Um,Uj] (vP C)) (hn:6<=n):P7 P w K j d ce (n+1) f fd [UM] vR:=by
 have ZZ:=QF
 walk_at "o"
 ·obtain⟨lt,i,D,rfl,hl,eF,O,q⟩:=h;have N8:P9 1 _:=hr.mono zo;have N9:P9 2 _:=hr.mono zo;have V':P9 3 _:=hr.mono zo;have X9:P9 4 _:=hr.mono zo;have sz:(10000:Nat)<=sizeLine:=by decide
  refine⟨_,ae (bP 1 QF.nd<|wO MK IN N9 U ta bI .nil lL<|aV<|pv 0)
   (ae (bP 2 QF.nd<|ap BO X9 U<|jF (pv 1) ah af af)
   (ae (bP 3 QF.nd<|ap BO X9 U<|jF (pv 1) ah af af)
   (ae (bP 4 QF.nd<|ap BO X9 U<|jF (pv 1) ah af af)
   (ae (bP 5 QF.nd<|ap NA V' U<|jF (pv 1) ah af af)
   (ae (bP 6 QF.nd<|ap NA V' U<|jF (pv 1) ah af af)
   (ae (bP 7 QF.nd<|ap NA V' U<|jF (pv 1) ah af af)
   (ae (bP 8 QF.nd<|aM<|aV<|ap KD hr U<|bj (pv 1)<|pv 2)
   (ae (gk h_ (PW.pt<|bW (bY eR (aC aT (by rfl) B.len MG<|aV<|pv 8)<|bf (v:=.int 8) U Z.mkn ⟨_,U⟩)<|bG<|bY aR (aX<|pv 1) ah)
    (ai<|aL<|cx Mw My Mx bu (pv 8)<|aV<|ap KD hr U<|bj (pv 1)<|pv 2))
   (ae (aL<|aX<|pv 1)
   (ai<|ao<|aw<|be (pv 2)<|be (pv 3)<|HK (pv 4) (pv 5) (pv 6) (pv 7)<|aU bQ (by rfl) B.tuple cu<|aV<|pv 8)))))))))),?_⟩
  obtain⟨f3,VW,M3,F3,B3⟩:=T.look;obtain⟨f4,Zt,M4,F4,B4⟩:=T.nend;refine⟨_,U,λa dx na nd ne=>⟨a,dx,lt,i,U,aa,?_,eF,λl N r1 X=>⟨U,?_⟩⟩⟩
  ·exact(c7 na<|ag nd) _ _ hl
  have s1:P4 H N:=gx na (c7 na<|ag nd) X;have ti:=na;clear X;refine⟨_,U,a,l,i,0,true,UI,D.width,4,24,U,r1,O.a0,O.a1,O.a2,by have:=O.bw;lia,O.bw.1,O.bw.2,λH2 r2 b2=>?_⟩;refine⟨_,U,a,l,i,3,true,Uo,D.cells,4,64,U,r2,O.a3,O.a4,O.a5,by have:=O.bc;lia,O.bc.1,O.bc.2,λH3 r3 b3=>?_⟩;refine⟨_,U,a,l,i,6,true,Uq,D.depth,0,8,U,r3,O.a6,O.a7,O.a8,by have:=O.bd;lia,MR _,O.bd,λH4 r4 b4=>?_⟩;have eT:=(b2.trans b3).trans b4;refine⟨_,U,a,l,i,9,true,Ul,D.places,1,4,U,r4,O.a9,O.pn,O.pe,O.bp.1,O.bp.2,zd,λpp H5 r5 b5 tf e5=>?_⟩;refine⟨_,U,a,l,i,9+2+D.places.length,true,Up,D.marks,0,3,U,r5,?_,?_,?_,MR _,O.bm,zd,λpm H6 r6 b6 tp e6=>?_⟩
  ·exact O.m9
  ·rw[show 9+2+D.places.length+1=12+D.places.length by lia];exact O.mn
  ·rw[show 9+2+D.places.length+1+D.marks.length=12+D.places.length+D.marks.length by lia];exact O.me
  obtain⟨YJ,W6⟩:=r5.ob;have eH:=(b6.kt W6) _ _ e5;refine⟨_,U,a,l,i,9+2+D.places.length+2+D.marks.length,true,UD,D.gates,0,1,U,r6,?_,?_,?_,MR _,O.bg,zd,λpg H7 r7 b7 tv e7=>?_⟩
  ·rw[show 9+2+D.places.length+2+D.marks.length=13+D.places.length+D.marks.length by lia];exact O.g9
  ·rw[show 9+2+D.places.length+2+D.marks.length+1=14+D.places.length+D.marks.length by lia];exact O.gn
  ·rw[show 9+2+D.places.length+2+D.marks.length+1+D.gates.length=14+D.places.length+D.marks.length+D.gates.length by lia];exact O.ge
  obtain⟨tn,ew⟩:=r6.ob;have es:=(b7.kt ew) _ _ eH;have eL:=(b7.kt ew) _ _ e6;rw[show 9+2+D.places.length+2+D.marks.length+2+D.gates.length=15+D.places.length+D.marks.length+D.gates.length by lia]at r7;have en:Qc a N H7:=((eT.trans b5).trans b6).trans b7;have el:=O.ks;have J:=O.bk;generalize 15+D.places.length+D.marks.length+D.gates.length=k0 at*;obtain⟨x0,Zy,ee⟩:∃x r,D.kinds=x::r:=by
   cases hh:D.kinds with
   |nil=>rw[hh]at J;simp at J
   |cons x r=>exact⟨x,r,U⟩
  rw[ee]at el J;obtain⟨e0,ec⟩:=el;refine⟨_,U,_,U,a,l,i,k0,true,x0,D.width,U,O.bw.2,r7,e0,λu0 H8 r8 b8 e9=>?_⟩;obtain⟨tr,e3⟩:=r7.ob;have ea:=b8.kt e3;refine⟨Qa,λt nk=>?_⟩;have s9:=ag (o:=.lst [u0]) nk;have eN:Qc a N (aB H8 t<|.lst [u0]):=(en.trans b8).same s9;obtain⟨tc,ey⟩:=r8.ob;obtain⟨WS,VO⟩:=r1.ob;have ez:N t=none:=jO (en.trans b8) ey nk;have e':t≠a:=by
   rintro rfl;rw[ey]at nk;cases nk
  have tt:t≠l:=λz=>by
   have:=r8.tk;rw[<-z,nk]at this;cases this
  have I0:KI C N a l i D.kinds [x0] Zy t pp pm pg D (aB H8 t<|.lst [u0]):=⟨ee,⟨_,r8.same s9,ec⟩,eN,ez,e',tt,s9 _ _<|ea _ _ es,s9 _ _<|ea _ _ eL,s9 _ _<|ea _ _ e7,[u0],aa,U,.cons (e9.kt<|ak s9) .nil⟩;generalize aB H8 t (.lst [u0])=H9 at*;refine⟨λm σ M=>∃done j',m=j'.length/\σ=[some<|.ref lt,some<|.ref a,some<|.int D.width,some<|.int D.cells,some<|.int D.depth,some<|.ref pp,some<|.ref pm,some<|.ref pg,some<|.ref t]/\KI C N a l i D.kinds done j' t pp pm pg D M,⟨_,[x0],Zy,U,U,I0⟩,?_⟩;intro m σ Ha z;obtain⟨done,j',rfl,rfl,I⟩:=z;obtain⟨p,ek,lu,pu⟩:=I.ls;obtain⟨k,rk,er⟩:=I.rd;obtain⟨G,Y⟩:=rk.ob;have Yq:done.length+j'.length<=8:=by
   have:=e_ List.length I.sp;rw[Md,ee]at this;simp only[Mg]at this J;lia
  cases j' with
  |cons x r=>
   obtain⟨eh,ed⟩:=er;have Oh:done.length<8:=by simp only[Mg]at Yq;lia
   refine⟨_,U,t,_,U,.inl<|P8.of ek,_,_,U,U,_,U,bx (b_<|by rw[lu];lia) ?_⟩;refine⟨_,U,a,G,C,f3,_,VW,1,[Ui],_,U,Y,U,T.cl,M3,F3,N8,B3,a,l,i,k,true,Uv,U,rk,eh.t0,U,_,U,bx zk ?_⟩;refine⟨λR M=>R=[some<|.ref lt,some<|.ref a,some<|.int D.width,some<|.int D.cells,some<|.int D.depth,some<|.ref pp,some<|.ref pm,some<|.ref pg,some<|.ref t]/\KI C N a l i D.kinds (done++[x]) r t pp pm pg D M,λR M⟨e1,e2⟩=>⟨r.length,by simp,done++[x],r,U,e1,e2⟩,_,U,.inl ⟨U,_,P8.of ek⟩,_,U,_,U,a,l,i,k,true,x,D.width,U,O.bw.2,rk,eh,λu Hb rb bb hu=>?_⟩;have kb:=bb.kt Y;have eb:=bb _ _ ek I.la;have k2:=xc (ys:=p++[u]) eb;refine⟨t,p,_,U,U,eb,by rw[lu];lia,U,by rw[I.sp,MS];rfl,⟨_,⟨?_,?_,rb.le⟩,ed⟩,?_,I.nk,I.la,I.ll,k2 _ _<|kb _ _ I.ep,k2 _ _<|kb _ _ I.em,k2 _ _<|kb _ _ I.eg,p++[u],aa,by simp[lu],fF (hu.kt k2)<|bq (λ_ _ h=>(h.kt kb).kt k2) pu⟩
   ·obtain⟨eS,e8⟩:=rb.ob;exact⟨eS,by rw[al I.la.symm];exact e8⟩
   ·rw[al I.ll.symm];exact rb.tk
   ·intro b o e nb;by_cases h:b=t
    ·rw[h,I.nk]at e;cases e
    ·rw[al h];exact bb _ _ (I.bt _ _ e nb) nb
  |nil=>
   have et:k=i.length:=er;have ZB:D.kinds=done:=by rw[I.sp,MM]
   have ev:(tz i)[k]?=some "":=by rw[et];simp[tz]
   have tm:("":Str)≠(Uv:Str):=by decide +kernel
   have sH:P4 H Ha:=gx ti s1 I.bt;by_cases h8:done.length<8
   ·refine⟨_,U,t,_,U,.inl<|P8.of ek,_,_,U,U,_,U,bx (b_<|by rw[lu];lia) ?_⟩;refine⟨_,U,a,G,C,f3,_,VW,1,[Ui],_,U,Y,U,T.cl,M3,F3,N8,B3,a,l,i,k,true,"",U,rk,ev,U,_,U,aY zk ?_⟩;refine⟨_,U,a,G,C,f4,_,Zt,1,[Ui],_,U,Y,U,T.cl,M4,F4,N8,B4,a,l,i,k,U,rk,et,_,U,_,U,_,U,_,U,_,U,_,U,_,U,t,p,U,.inl ⟨P8.of ek,λpk ei=>⟨Qa,λpt ZK=>?_⟩⟩⟩;have WB:=ag (o:=.tup p) ei;have Xl:=ag (o:=.tup [.int D.width,.int D.cells,.int D.depth,.ref pp,.ref pm,.ref pg,.ref pk]) ZK;have L:=WB.trans Xl;exact q _ _ (sH.trans L) ⟨pt,pp,pm,pg,pk,p,U,aa,L _ _ I.ep,L _ _ I.em,L _ _ I.eg,Xl _ _ aa,by rw[ZB];exact bq (λ_ _ h=>h.kt<|ak L) pu⟩
   ·refine⟨_,U,t,_,U,.inl<|P8.of ek,_,_,U,U,_,U,aY (c_<|by rw[lu];lia)<|cD ?_⟩;refine⟨_,U,a,G,C,f4,_,Zt,1,[Ui],_,U,Y,U,T.cl,M4,F4,N8,B4,a,l,i,k,U,rk,et,_,U,_,U,_,U,_,U,_,U,_,U,_,U,t,p,U,.inl ⟨P8.of ek,λpk ei=>⟨Qa,λpt ZK=>?_⟩⟩⟩;have WB:=ag (o:=.tup p) ei;have Xl:=ag (o:=.tup [.int D.width,.int D.cells,.int D.depth,.ref pp,.ref pm,.ref pg,.ref pk]) ZK;have L:=WB.trans Xl;exact q _ _ (sH.trans L) ⟨pt,pp,pm,pg,pk,p,U,aa,L _ _ I.ep,L _ _ I.em,L _ _ I.eg,Xl _ _ aa,by rw[ZB];exact bq (λ_ _ h=>h.kt<|ak L) pu⟩
end
abbrev Ne:=Str×Str×Bool×Nat
def nJ(b:Bool):Str:=if b then "by" else "is"
def SN(H:Hp)(z:di×V)(x:Ne):Prop:=z.1=Sum.inr x.1/\∃p q,z.2=.ref p/\H p=some (.tup [.str x.2.1,.ref q])/\H q=some (.tup [.str<|nJ x.2.2.1,.int (x.2.2.2:Nat)])
inductive Q9(H:Hp)(d:Vr)(ks:List Ne):Prop
 |mk(e:_):H d=some (.dK e)->Paired (SN H) e ks->Q9 H d ks
def SN.kt(k:Qi H e)(h:SN H t x):SN e t x:=by obtain⟨a,p,q,b,c,d⟩:=h;exact ⟨a,p,q,b,k _ _ c,k _ _ d⟩
def Fe(e:H l=some (.dK o)):Qi H (aB H l<|.dK ys):=λb t h=>by
 rw[al]
 ·exact h
 ·rintro rfl;rw[e]at h;cases h
def AA:∀{o:List (di×V)}{q:List Ne},Paired (SN H) o q->∀{z:Str},z∉q.map (·.1)->bA o (Sum.inr z)=none
 |_,_,.nil,_,_=>sF
 |_,_,.cons (a:=r) (b:=x) h t,z,i=>by
  rw[cr]
  ·exact AA t (λm=>i<|Mn _ m)
  ·intro e;rw[h.1]at e;have:=TJ e;exact i (by rw[Mz,this];exact Mf)
def xg:∀{o:List (di×V)}{O:List Ne},Paired (SN H) o O->∀{z s:Str}{b:Bool}{n:Nat},(z,s,b,n)∈O->(O.map (·.1)).Nodup->∃p q,bA o (Sum.inr z)=some (.ref p)/\H p=some (.tup [.str s,.ref q])/\H q=some (.tup [.str<|nJ b,.int (n:Nat)])
 |_,_,.nil,_,_,_,_,m,_=>by cases m
 |_,_,.cons (a:=i) (b:=x) h t,z,s,b,n,m,nd=>by
  rw[Mz,NH]at nd;rcases Mo.mp m with e|I
  ·obtain⟨e1,p,q,e2,L,e4⟩:=h;subst e;refine⟨p,q,?_,L,e4⟩;rw[cL e1,e2]
  ·have D:¬i.1=Sum.inr z:=by
    intro e;rw[h.1]at e;have:=TJ e;exact nd.1 (by rw[this];exact MQ.mpr ⟨(z,s,b,n),I,U⟩)
   rw[cr D];exact xg t I nd.2
inductive iH(vs:VA)(H:Hp)(Q:VK)(t:XK):Prop
 |mk(d ks nm st q:_)(b:Bool)(n:Nat):vs=[.ref d,.str nm,.str st,.ref q]->Q9 H d ks->H q=some (.tup [.str<|nJ b,.int (n:Nat)])->nm∉ks.map (·.1)->ks.length<=20->(∀e,Q9 e d (ks++[(nm,st,b,n)])->Qc d H e->Q .non e)->iH vs H Q t
inductive db(K:ZF)(vs:VA)(H:Hp)(Q:VK)(i:XK):Prop
 |mk(d ks nm st p o:_)(b:Bool)(n:Nat):vs=[.ref d,.str nm,.ref p]->Q9 H d ks->(nm,st,b,n)∈ks->(ks.map (·.1)).Nodup->(P8 K H p (am o)\/P5 K H p (am o))->st∈o->(∀t q e,P4 H e->e t=some (.tup [.str st,.ref q])->e q=some (.tup [.str<|nJ b,.int (n:Nat)])->Q (.ref t) e)->db K vs H Q i
section
def yF:ax [Us,"name",UZ,"sel"] [Us,"name",UZ,"sel"] (aj nj):=cP zk
def vS(F:Qj K "add_name" "add_name" nj f m):P7 P w K M i ce 1 f m [Us,"name",UZ,"sel"] iH:=by
 have ZZ:=yF
 walk_at "o"
 ·obtain⟨d,ks,nm,st,sq,b,n,rfl,Z,j,v,R,q⟩:=h;have G:=eE hr;refine⟨_,ae (aP (uF<|zX G (pv 1)<|pv 0) (ai dv) ay)<|ai<|fS G (pv 0) (pv 1) (aw<|bj (pv 2)<|pv 3) U,?_⟩;obtain⟨t,r,I⟩:=Z;have Y:=AA I v;have C:=I.length;have ee:(1000:Nat)<=sizeLine:=by decide
  have g:QE H d (.str nm) none:=by
   have:=QE.k (k:=Sum.inr nm) r;rw[Y]at this;exact this
  refine⟨_,U,_,U,d,_,U,g,_,U,cD ?_⟩;refine⟨_,U,_,U,Qa,λp np=>?_⟩;generalize J:aB H p _=N;have O:=(nw np J).1;have ep:=(nw np J).2;clear J;have z:=O _ _ r;have D:=O _ _ j;refine⟨_,U,_,U,d,_,U,QY.k (k:=Sum.inr nm) z zo,?_⟩;rw[sJ _ Y];have L:=Fe (ys:=t++[(Sum.inr nm,V.ref p)]) z;refine q _ ⟨_,aa,fF ⟨U,p,sq,U,L _ _ ep,L _ _ D⟩<|bq (λ_ _ h=>(h.kt<|ak O).kt L) I⟩ (λb o e nb=>?_);rw[al nb];exact O _ _ e
def QL:ax [Us,"name",Vl,UZ,"sel"] [Us,"name",Vl] (aj jg):=cP zk
def qK(F:Qj K "need_known" "need_known" jg f i):P7 P w K N e ce 1 f i [Us,"name",Vl] (db K):=by
 have ZZ:=QL
 walk_at "o"
 ·obtain⟨d,ks,nm,st,p,o,b,n,rfl,Y,G,D,Z,m,q⟩:=h;have z:=eE hr;refine⟨_,ae (aP (uF<|yt z (pv 1)<|pv 0) (ai dv) ay)
   (ae (gB (bv z (pv 0)<|pv 1)<|cA U<|aq (eQ 3 QL.nd)<|aq (eQ 4 QL.nd) bi)
   (ae (aP (cy dX (pv 3) (pv 2) U) (ai dv) ay)
   (ai<|ao<|aw<|bj (pv 3)<|pv 4))),?_⟩
  obtain⟨j,r,J⟩:=Y;obtain⟨I,sq,v,L,e1⟩:=xg J G D;have g:QE H d (.str nm) (some<|.ref I):=by
   have:=QE.k (k:=Sum.inr nm) r;rw[v]at this;exact this
  refine⟨_,U,_,U,d,_,U,g,_,U,cD ?_⟩;refine⟨_,U,_,U,d,_,U,g,I,_,U,P5.of L,U,_,_,U,_,_,U,U,_,U,_,U,p,am o,U,Z,U,cQ _,_,U,aY ?_ ?_⟩
  ·show(!ic (.str st) (am o))=false;rw[dZ,MV.mpr m];rfl
  ·refine⟨_,U,_,U,Qa,λt O=>?_⟩;exact q t sq _ (ag O) aa (ag O _ _ e1)
end
def vT:bootBuiltins "dict"=some (.type "dict"):=by decide +kernel
structure Ff(mg:Str->Option Vq):Prop where
 dict:mg "dict"=none
 enumerate:mg "enumerate"=none
def fN(e:Vz):List Ne:=e.mapIdx λj x=>(x.1,x.2,true,j)
def AB(e:Vz)(i:Nat):(fN e)[i]?=e[i]?.map λx=>(x.1,x.2,true,i):=by unfold fN;rw[List.getElem?_mapIdx]
def vU(e:Vz):(fN e).length=e.length:=by unfold fN;simp
inductive AE(vs:VA)(H:Hp)(Q:VK)(i:XK):Prop
 |mk(d tf o ks e:_):vs=[.ref d,.ref tf]->Q9 H d ks->H tf=some (.tup o)->Paired (Qp H) o e->((ks++fN e).map (·.1)).Nodup->ks.length+e.length<=20->(∀d' t,P4 H t->H d'=none->Q9 t d' (ks++fN e)->Q (.ref d') t)->AE vs H Q i
section
def RI:ax [Us,U9,"within","j","name",UZ] [Us,U9] (aj jh):=cP zk
def GA(F:Qj K "names_with_fields" "names_with_fields" jh f fd)(B:Ff X)(AN:Fn P w K X m "add_name" 1 [Us,"name",UZ,"sel"] iH):P7 P w K X m ce 2 f fd [Us,U9] AE:=by
 have ZZ:=RI
 walk_at "o"
 ·obtain⟨d,tf,us,D,e,rfl,⟨r,hd,hp⟩,C,R,U',et,q⟩:=h;refine⟨_,ae (bP 2 RI.nd<|aU uW (by rfl) B.dict vT<|aV<|pv 0)
   (ae (cU h_ U (m7 U B.enumerate<|aV<|pv 1) (cA U<|aq (eQ 3 RI.nd)<|aq (cA U<|aq (eQ 4 RI.nd)<|aq (eQ 5 RI.nd) bi) bi)
    (ai<|aL<|ap AN hr U<|jF (pv 2) (pv 4) (pv 5)<|aw<|bj ah<|pv 3))
   (ai<|ao<|pv 2)),?_⟩
  refine⟨_,U,d,r,U,hd,λd' z=>?_⟩;generalize I:aB H d' _=H1;have v:=(nw z I).1;have e1:H1 d'=some (.dK r):=(nw z I).2;clear I;refine⟨_,U,tf,U,⟨_,P5.of<|v _ _ C⟩,?_⟩;have lf:=R.length;refine kK (K:=K) (l:=tf) (xs:=us) (λi p Y=>∃v3 v4 v5:Option V,p=[some<|.ref d,some<|.ref tf,some<|.ref d',v3,v4,v5]/\P4 H Y/\Q9 Y d' (D++(fN e).take i)) ⟨_,_,_,U,v,r,e1,by simpa using bq (λ_ _ h=>h.kt<|ak v) hp⟩ (λi p Y _ I=>by obtain⟨_,_,_,_,s',_⟩:=I;exact P5.of (s' _ _ C)) ?_ ?_
  ·intro i x p G T1 hx nT z;obtain⟨v3,v4,v5,rfl,j,L⟩:=z;obtain⟨y,M,Z,rfl,Wa⟩:=fh R hx;have Oh:i<e.length:=(Mc.mp M).1;have N:=ag (o:=.tup [.int (i:Int),.ref Z]) nT;have O:=j.trans N;refine⟨T1,_,U,P5.of aa,U,_,_,U,_,_,U,⟨Z,_,U,P5.of<|O _ _ Wa,U,_,_,U,_,_,U,U,U,?_⟩⟩;refine⟨_,U,_,U,_,U,_,U,Qa,λt nt=>?_⟩;have s4:=ag (o:=.tup [.str "by",.int (i:Int)]) nt;have ee:=O.trans s4;have n4:Q9 (aB (aB G T1<|.tup [.int (i:Int),.ref Z]) t<|.tup [.str "by",.int (i:Int)]) d' (D++(fN e).take i):=let⟨J,a,b⟩:=L;⟨J,(N.trans s4) _ _ a,bq (λ_ _ h=>h.kt<|ak<|N.trans s4) b⟩;have X6:(fN e)[i]?=some (y.1,y.2,true,i):=by rw[AB,M];rfl
   have Yn:i<(fN e).length:=by rw[vU];exact Oh
   have Yd:(fN e).take (i+1)=(fN e).take i++[(y.1,y.2,true,i)]:=by rw[MW,X6];rfl
   refine⟨d',_,y.1,y.2,t,true,i,U,n4,aa,?_,?_,λH5 n5 b5=>⟨_,_,_,U,gx z ee b5,?_⟩⟩
   ·intro hm;have e5:D++fN e=(D++(fN e).take i)++((y.1,y.2,true,i)::(fN e).drop (i+1)):=by
     rw[MS]
     congr 1
     have:=(Nb i<|fN e).symm;rw[MZ Yn]at this;rw[(Mc.mp X6).2]at this;exact this
    rw[e5,Mq,Mz]at U';exact(NS.mp U').2.2 _ hm _ Mf rfl
   ·rw[Md,Mp,vU];lia
   ·rw[Yd,<-MS];exact n5
  ·intro p G z;obtain⟨v3,v4,v5,rfl,j,L⟩:=z;rw[lf,<-vU,MD]at L;exact⟨_,U,q d' G j z L⟩
end
inductive R1(H:Hp)(b:Bool)(n:Nat)(v:V):Prop
 |mk(q:_):v=.ref q->H q=some (.tup [.str<|nJ b,.int (n:Nat)])->R1 H b n v
def R1.kt(k:Qi H e)(h:R1 H b n v):R1 e b n v:=let⟨p,a,c⟩:=h;⟨p,a,k _ _ c⟩
def QJ(H:Hp):Ed->V->Prop
 |.num n,v=>∃p,v=.ref p/\H p=some (.tup [.str "number",.int (n:Nat)])
 |.fld j,v=>∃p,v=.ref p/\H p=some (.tup [.str U7,.int (j:Nat)])
 |.pl b n,v=>∃p u,v=.ref p/\H p=some (.tup [.str Uh,u])/\R1 H b n u
 |.mk b n,v=>∃p u,v=.ref p/\H p=some (.tup [.str Uk,u])/\R1 H b n u
 |.cell e,v=>∃p u,v=.ref p/\H p=some (.tup [.str "cell",u])/\QJ H e u
 |.two o x y,v=>∃p u t,v=.ref p/\H p=some (.tup [.str o,u,t])/\QJ H x u/\QJ H y t
def QJ.kt(k:Qi H o):∀{e:Ed}{v:V},QJ H e v->QJ o e v
 |.num _,_,⟨p,a,b⟩=>⟨p,a,k _ _ b⟩
 |.fld _,_,⟨p,a,b⟩=>⟨p,a,k _ _ b⟩
 |.pl _ _,_,⟨p,u,a,b,c⟩=>⟨p,u,a,k _ _ b,c.kt k⟩
 |.mk _ _,_,⟨p,u,a,b,c⟩=>⟨p,u,a,k _ _ b,c.kt k⟩
 |.cell _,_,⟨p,u,a,b,c⟩=>⟨p,u,a,k _ _ b,QJ.kt k c⟩
 |.two _ _ _,_,⟨p,u,t,a,b,c,d⟩=>⟨p,u,t,a,k _ _ b,QJ.kt k c,QJ.kt k d⟩
inductive vV(ks:List Ne):Ex->Ed->Prop
 |num (n:Nat):vV ks (.num n) (.num n)
 |fld {z:Str} {b:Bool} {n:Nat}:(z,("number":Str),b,n)∈ks->vV ks (.nm z) (.fld n)
 |pl {z:Str} {b:Bool} {n:Nat}:(z,(Uh:Str),b,n)∈ks->vV ks (.nm z) (.pl b n)
 |mk{z:Str}{b:Bool}{n:Nat}:(z,(Uk:Str),b,n)∈ks->vV ks (.nm z) (.mk b n)
 |cell {e:Ex} {d:Ed}:vV ks e d->vV ks (.cell e) (.cell d)
 |two {o:Str} {x y:Ex} {a b:Ed}:o∈dG->vV ks x a->vV ks y b->vV ks (.two o x y) (.two o a b)
def rV:Ex->Nat
 |.num _=>0
 |.nm _=>0
 |.cell e=>rV e+1
 |.two _ x y=>max (rV x) (rV y)+1
inductive xh(m:Nat)(vs:VA)(H:Hp)(Q:VK):Prop
 |mk(d ks v e ed:_):vs=[.ref d,v]->Q9 H d ks->(ks.map (·.1)).Nodup->Rr H e v->vV ks e ed->rV e<=m->(∀u t,P4 H t->QJ t ed u->Q u t)->xh m vs H Q
def qM :Nat->Sp
 |0=>li
 |m+1=>λvs H Q _=>xh m vs H Q
def Q9.same(h:Q9 H d ks)(s:P4 H e):Q9 e d ks:=let⟨q,a,b⟩:=h;⟨q,s _ _ a,bq (λ_ _ h=>h.kt<|ak s) b⟩
def GB:("number":Str)∉dG/\("name":Str)∉dG/\("cell":Str)∉dG:=by decide +kernel
section
def Rz:ax [Us,"e",UZ,"sel","one"] [Us,"e"] (aj qj):=cP zk
def mq(F:Qj K "expression_of" "expression_of" qj f fd)(NK:Fn P w K mg r "need_known" 1 [Us,"name",Vl] (db K))(EX:Fn P w K mg r "expression_of" n [Us,"e"] (qM m))(hn:1<=n):P7 P w K mg r ce (n+1) f fd [Us,"e"] (qM<|m+1):=by
 have ZZ:=Rz
 walk_at "o"
 ·obtain⟨d,ks,v,e,ed,rfl,hN,Z,hV,hE,hD,q⟩:=h;have N8:P9 1 _:=hr.mono zo;refine⟨_,ae (aP (bY aR (cB (pv 1) af) ah) (ai<|ao<|pv 1) ay)
   (ae (aP (bY aR (cB (pv 1) af) ah)
    (ae (gB (ap NK N8 U<|du (pv 0) (cB (pv 1) af)<|aw<|du ah ah ah)<|cA U<|aq (eQ 2 Rz.nd)<|aq (eQ 3 Rz.nd) bi)
    (ai<|ao<|jB (bY aR (pv 2) ah) (aw<|bj ah<|cB (pv 3) af)<|aw<|bj (pv 2)<|pv 3)) ay)
   (ae (aP (bY aR (cB (pv 1) af) ah) (ai<|ao<|aw<|bj ah<|ap EX hr U<|bj (pv 0)<|cB (pv 1) af) ay)
   (ae (bP 4 Rz.nd<|ap EX hr U<|bj (pv 0)<|cB (pv 1) af)
   (ai<|ao<|aw<|du (cB (pv 1) af) (pv 4)<|ap EX hr U<|bj (pv 0)<|cB (pv 1) af)))),?_⟩
  have nnum:∀z:Str,z≠"number"->decide (V.str z=V.str "number")=false:=λz h=>c_ λe=>h (V.str.inj e);cases hE with
  |num i=>
   obtain⟨p,rfl,O⟩:=hV;refine⟨_,U,p,_,_,_,U,U,P5.of O,aZ,U,_,U,bx (b_ U) ⟨_,U,q _ _ (P4.refl _) ⟨p,U,O⟩⟩⟩
  |@fld z b i N=>
   obtain⟨p,rfl,O⟩:=hV;refine⟨_,U,p,_,_,_,U,U,P5.of O,aZ,U,_,U,aY zk ?_⟩;refine⟨_,U,p,_,_,_,U,U,P5.of O,aZ,U,_,U,bx (b_ U) ?_⟩;refine⟨_,U,_,U,p,_,_,_,U,U,P5.of O,cF,Qa,λt nt=>?_⟩;have J:=ag (o:=.tup [.str Uh,.str Uk,.str "number"]) nt;refine⟨d,ks,z,"number",t,[Uh,Uk,"number"],b,i,U,hN.same J,N,Z,.inr<|P5.of aa,zk,λR G C I e2 j=>?_⟩;refine⟨R,_,U,P5.of e2,U,_,_,U,_,_,U,U,_,U,U,_,U,bx (b_ U) ⟨_,U,G,_,_,_,U,U,P5.of j,cF,Qa,λY L=>?_⟩⟩;exact q _ _ ((J.trans I).trans<|ag L) ⟨Y,U,aa⟩
  |@pl z b i N=>
   obtain⟨p,rfl,O⟩:=hV;refine⟨_,U,p,_,_,_,U,U,P5.of O,aZ,U,_,U,aY zk ?_⟩;refine⟨_,U,p,_,_,_,U,U,P5.of O,aZ,U,_,U,bx (b_ U) ?_⟩;refine⟨_,U,_,U,p,_,_,_,U,U,P5.of O,cF,Qa,λt nt=>?_⟩;have J:=ag (o:=.tup [.str Uh,.str Uk,.str "number"]) nt;refine⟨d,ks,z,Uh,t,[Uh,Uk,"number"],b,i,U,hN.same J,N,Z,.inr<|P5.of aa,zk,λR G C I e2 j=>?_⟩;refine⟨R,_,U,P5.of e2,U,_,_,U,_,_,U,U,_,U,U,_,U,aY zk ⟨_,U,_,U,Qa,λY L=>?_⟩⟩;have D:=ag (o:=.tup [.str Uh,.ref G]) L;exact q _ _ ((J.trans I).trans D) ⟨Y,.ref G,U,aa,G,U,D _ _ j⟩
  |@mk z b i N=>
   obtain⟨p,rfl,O⟩:=hV;refine⟨_,U,p,_,_,_,U,U,P5.of O,aZ,U,_,U,aY zk ?_⟩;refine⟨_,U,p,_,_,_,U,U,P5.of O,aZ,U,_,U,bx (b_ U) ?_⟩;refine⟨_,U,_,U,p,_,_,_,U,U,P5.of O,cF,Qa,λt nt=>?_⟩;have J:=ag (o:=.tup [.str Uh,.str Uk,.str "number"]) nt;refine⟨d,ks,z,Uk,t,[Uh,Uk,"number"],b,i,U,hN.same J,N,Z,.inr<|P5.of aa,zk,λR G C I e2 j=>?_⟩;refine⟨R,_,U,P5.of e2,U,_,_,U,_,_,U,U,_,U,U,_,U,aY zk ⟨_,U,_,U,Qa,λY L=>?_⟩⟩;have D:=ag (o:=.tup [.str Uk,.ref G]) L;exact q _ _ ((J.trans I).trans D) ⟨Y,.ref G,U,aa,G,U,D _ _ j⟩
  |@cell e1 d1 h1=>
   obtain⟨p,u,rfl,O,B⟩:=hV;refine⟨_,U,p,_,_,_,U,U,P5.of O,aZ,U,_,U,aY zk ?_⟩;refine⟨_,U,p,_,_,_,U,U,P5.of O,aZ,U,_,U,aY zk ?_⟩;refine⟨_,U,p,_,_,_,U,U,P5.of O,aZ,U,_,U,bx (b_ U) ?_⟩;cases m with
   |zero=>simp[rV]at hD
   |succ m=>
    refine⟨_,U,_,U,p,_,_,_,U,U,P5.of O,cF,d,ks,u,e1,d1,U,hN,Z,B,h1,by simp[rV]at hD;lia,λu2 C I X=>⟨Qa,λY L=>?_⟩⟩;have D:=ag (o:=.tup [.str "cell",u2]) L;exact q _ _ (I.trans D) ⟨Y,u2,U,aa,X.kt<|ak D⟩
  |@two o x y a b M hx hy=>
   obtain⟨p,u,t,rfl,O,B,ht⟩:=hV;obtain⟨o1,o2,o3⟩:=GB;refine⟨_,U,p,_,_,_,U,U,P5.of O,aZ,U,_,U,aY (c_ λe=>o1<|V.str.inj e▸M) ?_⟩;refine⟨_,U,p,_,_,_,U,U,P5.of O,aZ,U,_,U,aY (c_ λe=>o2<|V.str.inj e▸M) ?_⟩;refine⟨_,U,p,_,_,_,U,U,P5.of O,aZ,U,_,U,aY (c_ λe=>o3<|V.str.inj e▸M) ?_⟩;cases m with
   |zero=>simp[rV]at hD
   |succ m=>
    have X0:rV x<=m/\rV y<=m:=by
     simp only[rV]at hD;lia
    refine⟨_,U,_,U,p,_,_,_,U,U,P5.of O,cF,d,ks,u,x,a,U,hN,Z,B,hx,X0.1,λu2 C I X=>?_⟩;refine⟨_,U,p,_,_,_,U,U,P5.of<|I _ _ O,aZ,_,U,_,U,_,U,p,_,_,_,U,U,P5.of<|I _ _ O,iW,d,ks,t,y,b,U,hN.same I,Z,ht.kt<|ak I,hy,X0.2,λu3 H3 s3 v3=>⟨Qa,λY L=>?_⟩⟩;have D:=ag (o:=.tup [.str o,u2,u3]) L;exact q _ _ ((I.trans s3).trans D) ⟨Y,u2,u3,U,aa,X.kt<|ak<|s3.trans D,v3.kt<|ak D⟩
end
def Qq(H:Hp)(g:Sd)(v:V):Prop:=match g with
 |.cell a e=>∃p u t,v=.ref p/\H p=some (.tup [.str "cell",u,t])/\QJ H a u/\QJ H e t
 |.pl b n e=>∃p u t,v=.ref p/\H p=some (.tup [.str Uh,u,t])/\R1 H b n u/\QJ H e t
 |.mk b n e=>∃p u t,v=.ref p/\H p=some (.tup [.str Uk,u,t])/\R1 H b n u/\QJ H e t
def Qq.kt(k:Qi H e):∀{g:Sd}{v:V},Qq H g v->Qq e g v
 |.cell _ _,_,⟨p,u,t,a,b,c,d⟩=>⟨p,u,t,a,k _ _ b,c.kt k,d.kt k⟩
 |.pl _ _ _,_,⟨p,u,t,a,b,c,d⟩=>⟨p,u,t,a,k _ _ b,c.kt k,d.kt k⟩
 |.mk _ _ _,_,⟨p,u,t,a,b,c,d⟩=>⟨p,u,t,a,k _ _ b,c.kt k,d.kt k⟩
inductive GC(ks:List Ne):Gs->Sd->Prop
 |cell {a e:Ex} {x y:Ed}:vV ks a x->vV ks e y->GC ks (.cell a e) (.cell x y)
 |pl {z:Str} {b:Bool} {n:Nat} {e:Ex} {y:Ed}:(z,(Uh:Str),b,n)∈ks->vV ks e y->GC ks (.nm z e) (.pl b n y)
 |mk{z:Str}{b:Bool}{n:Nat}{e:Ex}{y:Ed}:(z,(Uk:Str),b,n)∈ks->vV ks e y->GC ks (.nm z e) (.mk b n y)
def IZ:Gs->Nat
 |.cell a e=>max (rV a) (rV e)
 |.nm _ e=>rV e
def SK(H:Hp)(e:Ee)(v:V):Prop:=match e with
 |.w0 s=>∃p,v=.ref p/\H p=some (.tup [.str s])
 |.fault z=>∃p,v=.ref p/\H p=some (.tup [.str Ut,.str z])
 |.go s j=>∃p,v=.ref p/\H p=some (.tup [.str s,.int (j:Nat)])
def SK.kt(k:Qi H e):∀{g:Ee}{v:V},SK H g v->SK e g v
 |.w0 _,_,⟨p,a,b⟩=>⟨p,a,k _ _ b⟩
 |.fault _,_,⟨p,a,b⟩=>⟨p,a,k _ _ b⟩
 |.go _ _,_,⟨p,a,b⟩=>⟨p,a,k _ _ b⟩
inductive HM(ks:List Ne):En->Ee->Prop
 |w0 {s:Str}:s∈([UJ,UN,UO]:Vx)->HM ks (.w0 s) (.w0 s)
 |fault (z:Str):HM ks (.w1 Ut z) (.fault z)
 |go {s z:Str} {b:Bool} {n:Nat}:s∈([U4,Uz]:Vx)->(z,(U3:Str),b,n)∈ks->HM ks (.w1 s z) (.go s n)
def KS:Tt->Str
 |.top _ _=>UW
 |.pl _ _=>Uh
 |.mk _ _=>Uk
def HN:Tt->Bool×Nat
 |.top b n=>(b,n)
 |.pl b n=>(b,n)
 |.mk b n=>(b,n)
inductive SB(H:Hp)(t:Tt)(v:V):Prop
 |mk(p u:_):v=.ref p->H p=some (.tup [.str<|KS t,u])->R1 H (HN t).1 (HN t).2 u->SB H t v
def SB.kt(k:Qi H e)(h:SB H g v):SB e g v:=by obtain⟨p,u,a,b,c⟩:=h;exact ⟨p,u,a,k _ _ b,c.kt k⟩
inductive HP(ks:List Ne):Bool->Str->Tt->Prop
 |top {z:Str} {b:Bool} {n:Nat}:(z,(Uh:Str),b,n)∈ks->HP ks true z (.top b n)
 |pl {z:Str} {b:Bool} {n:Nat}:(z,(Uh:Str),b,n)∈ks->HP ks false z (.pl b n)
 |mk{z:Str}{b:Bool}{n:Nat}:(z,(Uk:Str),b,n)∈ks->HP ks false z (.mk b n)
def RD(H:Hp):Dd->V->Prop
 |.leaf s e,v=>∃p q o u,v=.ref p/\H p=some (.tup [.str Vk,.ref q,u])/\H q=some (.tup o)/\Paired (λv g=>Qq H g v) o s/\SK H e u
 |.ite t y n,v=>∃p u a b,v=.ref p/\H p=some (.tup [.str Vf,u,a,b])/\SB H t u/\RD H y a/\RD H n b
def RD.kt(k:Qi H t):∀{b:Dd}{v:V},RD H b v->RD t b v
 |.leaf _ _,_,⟨p,q,o,u,a,b,c,d,e⟩=>⟨p,q,o,u,a,k _ _ b,k _ _ c,bq (λ_ _ h=>Qq.kt k h) d,SK.kt k e⟩
 |.ite _ _ _,_,⟨p,u,x,y,a,b,c,d,e⟩=>⟨p,u,x,y,a,k _ _ b,c.kt k,RD.kt k d,RD.kt k e⟩
inductive GD(ks:List Ne):Bd->Dd->Prop
 |leaf {s:List Gs} {r:List Sd} {e:En} {o:Ee}:Paired (GC ks) s r->HM ks e o->GD ks (.leaf s e) (.leaf r o)
 |ite {t:Bool} {z:Str} {d:Tt} {y n:Bd} {y' i:Dd}:HP ks t z d->GD ks y y'->GD ks n i->GD ks (.ite t z y n) (.ite d y' i)
def CI:Bd->Nat
 |.leaf _ _=>0
 |.ite _ _ y n=>max (CI y) (CI n)+1
def tw(m:Nat):Bd->Prop
 |.leaf s _=>(∀g∈s,IZ g<=m)/\s.length<=4
 |.ite _ _ y n=>tw m y/\tw m n
inductive qN(m:Nat)(vs:VA)(H:Hp)(Q:VK)(t:XK):Prop
 |mk(d ks v g g':_):vs=[.ref d,v]->Q9 H d ks->(ks.map (·.1)).Nodup->Ro H g v->GC ks g g'->IZ g<=m->(∀u e,P4 H e->Qq e g' u->Q u e)->qN m vs H Q t
inductive nN(vs:VA)(H:Hp)(Q:VK)(i:XK):Prop
 |mk(d ks v t z o:_):vs=[.ref d,v]->Q9 H d ks->(ks.map (·.1)).Nodup->Rj H t z v->HP ks t z o->(∀u e,P4 H e->SB e o u->Q u e)->nN vs H Q i
inductive nO(vs:VA)(H:Hp)(Q:VK)(i:XK):Prop
 |mk(d ks v e o:_):vs=[.ref d,v]->Q9 H d ks->(ks.map (·.1)).Nodup->SM H e v->HM ks e o->(∀u t,P4 H t->SK t o u->Q u t)->nO vs H Q i
inductive pq(m0:Nat)(m:Nat)(vs:VA)(H:Hp)(Q:VK):Prop
 |mk(d ks v b b':_):vs=[.ref d,v]->Q9 H d ks->(ks.map (·.1)).Nodup->Se H b v->GD ks b b'->CI b<=m->tw m0 b->(∀u e,P4 H e->RD e b' u->Q u e)->pq m0 m vs H Q
def jR(q:Nat):Nat->Sp
 |0=>li
 |m+1=>λvs H Q _=>pq q m vs H Q
section
def QH:ax [Us,UX,UZ,"target",UI,"address","sel"] [Us,UX] (aj uZ):=cP zk
def AF(F:Qj K "set_of" "set_of" uZ f fd)(NK:Fn P w K mg r "need_known" 1 [Us,"name",Vl] (db K))(EX:Fn P w K mg r "expression_of" n [Us,"e"] (qM<|m+1))(hn:1<=n):P7 P w K mg r ce (n+1) f fd [Us,UX] (qN m):=by
 have ZZ:=QH
 walk_at "o"
 ·obtain⟨d,J,v,g,g',rfl,G,Y,hV,hG,hD,q⟩:=h;have N8:P9 1 _:=hr.mono zo;refine⟨_,ae (gB (pv 1)<|cA U<|aq (eQ 2 QH.nd)<|aq (eQ 3 QH.nd)<|aq (eQ 4 QH.nd) bi)
   (ae (aP (bY aR (pv 2) ah)
    (ae (bP 5 QH.nd<|ap EX hr U<|bj (pv 0)<|pv 3)
    (ai<|ao<|aw<|du ah (pv 5)<|ap EX hr U<|bj (pv 0)<|pv 4)) ay)
   (ae (gB (ap NK N8 U<|du (pv 0) (pv 3)<|aw<|bj ah ah)<|cA U<|aq (eQ 2 QH.nd)<|aq (eQ 6 QH.nd) bi)
   (ai<|ao<|aw<|du (pv 2) (pv 6)<|ap EX hr U<|bj (pv 0)<|pv 4))),?_⟩
  cases hG with
  |@cell a e x y ha Z=>
   obtain⟨p,u,t,rfl,j,hu,N⟩:=hV;have X0:rV a<=m/\rV e<=m:=by
    simp only[IZ]at hD;lia
   refine⟨_,U,p,_,U,P5.of j,U,_,_,U,_,_,U,_,_,U,U,_,U,U,_,U,bx (b_ U) ?_⟩;refine⟨_,U,_,U,d,J,u,a,x,U,G,Y,hu,ha,X0.1,λu2 H2 L v2=>?_⟩;refine⟨_,U,_,U,_,U,d,J,t,e,y,U,G.same L,Y,N.kt<|ak L,Z,X0.2,λu3 H3 I v3=>⟨Qa,λp4 n4=>?_⟩⟩;have O:=ag (o:=.tup [.str "cell",u2,u3]) n4;exact q _ _ ((L.trans I).trans O) ⟨p4,u2,u3,U,aa,v2.kt<|ak<|I.trans O,v3.kt<|ak O⟩
  |@pl z b i e y M Z=>
   obtain⟨p,t,rfl,j,N⟩:=hV;refine⟨_,U,p,_,U,P5.of j,U,_,_,U,_,_,U,_,_,U,U,_,U,U,_,U,aY zk ?_⟩;refine⟨_,U,_,U,Qa,λB nt=>?_⟩;have R:=ag (o:=.tup [.str Uh,.str Uk]) nt;refine⟨d,J,z,Uh,B,[Uh,Uk],b,i,U,G.same R,M,Y,.inr<|P5.of aa,zk,λX sq H2 L e2 C=>?_⟩;have D:=R.trans L;refine⟨X,_,U,P5.of e2,U,_,_,U,_,_,U,U,_,U,_,U,_,U,_,U,d,J,t,e,y,U,G.same D,Y,N.kt<|ak D,Z,hD,λu3 H3 I v3=>⟨Qa,λp4 n4=>?_⟩⟩;have O:=ag (o:=.tup [.str Uh,.ref sq,u3]) n4;exact q _ _ ((D.trans I).trans O) ⟨p4,_,u3,U,aa,⟨sq,U,O _ _<|I _ _ C⟩,v3.kt<|ak O⟩
  |@mk z b i e y M Z=>
   obtain⟨p,t,rfl,j,N⟩:=hV;refine⟨_,U,p,_,U,P5.of j,U,_,_,U,_,_,U,_,_,U,U,_,U,U,_,U,aY zk ?_⟩;refine⟨_,U,_,U,Qa,λB nt=>?_⟩;have R:=ag (o:=.tup [.str Uh,.str Uk]) nt;refine⟨d,J,z,Uk,B,[Uh,Uk],b,i,U,G.same R,M,Y,.inr<|P5.of aa,zk,λX sq H2 L e2 C=>?_⟩;have D:=R.trans L;refine⟨X,_,U,P5.of e2,U,_,_,U,_,_,U,U,_,U,_,U,_,U,_,U,d,J,t,e,y,U,G.same D,Y,N.kt<|ak D,Z,hD,λu3 H3 I v3=>⟨Qa,λp4 n4=>?_⟩⟩;have O:=ag (o:=.tup [.str Uk,.ref sq,u3]) n4;exact q _ _ ((D.trans I).trans O) ⟨p4,_,u3,U,aa,⟨sq,U,O _ _<|I _ _ C⟩,v3.kt<|ak O⟩
def Rh:ax [Us,"test",UI,"name"] [Us,"test"] (aj qi):=cP zk
def yG(F:Qj K "test_of" "test_of" qi f N)(NK:Fn P w K C e "need_known" 1 [Us,"name",Vl] (db K)):P7 P w K C e ce 2 f N [Us,"test"] nN:=by
 have ZZ:=Rh
 walk_at "o"
 ·obtain⟨d,ks,v,t,z,M,rfl,Z,J,⟨p,rfl,R⟩,hG,q⟩:=h;refine⟨_,ae (gB (pv 1)<|cA U<|aq (eQ 2 Rh.nd)<|aq (eQ 3 Rh.nd) bi)
   (ae (aP (bY aR (pv 2) ah) (ai<|ao<|aw<|bj ah<|cB (ap NK hr U<|du (pv 0) (pv 3)<|aw<|aV ah) af) ay)
   (ai<|ao<|ap NK hr U<|du (pv 0) (pv 3)<|aw<|bj ah ah)),?_⟩
  refine⟨_,U,p,_,U,P5.of R,U,_,_,U,_,_,U,U,?_⟩;cases hG with
  |@top _ b i L=>
   refine⟨_,U,U,_,U,bx (b_ U) ?_⟩;refine⟨_,U,_,U,Qa,λr Y=>?_⟩;have O:=ag (o:=.tup [.str Uh]) Y;refine⟨d,ks,z,Uh,r,[Uh],b,i,U,Z.same O,L,J,.inr<|P5.of aa,Mf,λm I j G e2 D=>?_⟩;refine⟨m,_,_,_,U,U,P5.of e2,cF,Qa,λp4 n4=>?_⟩;have s4:=ag (o:=.tup [.str UW,.ref I]) n4;exact q _ _ ((O.trans G).trans s4) ⟨p4,_,U,aa,I,U,s4 _ _ D⟩
  |@pl _ b i L=>
   refine⟨_,U,U,_,U,aY zk ?_⟩;refine⟨_,U,_,U,Qa,λr Y=>?_⟩;have O:=ag (o:=.tup [.str Uh,.str Uk]) Y;refine⟨d,ks,z,Uh,r,[Uh,Uk],b,i,U,Z.same O,L,J,.inr<|P5.of aa,zk,λm I j G e2 D=>?_⟩;exact q _ _ (O.trans G) ⟨m,_,U,e2,I,U,D⟩
  |@mk _ b i L=>
   refine⟨_,U,U,_,U,aY zk ?_⟩;refine⟨_,U,_,U,Qa,λr Y=>?_⟩;have O:=ag (o:=.tup [.str Uh,.str Uk]) Y;refine⟨d,ks,z,Uk,r,[Uh,Uk],b,i,U,Z.same O,L,J,.inr<|P5.of aa,zk,λm I j G e2 D=>?_⟩;exact q _ _ (O.trans G) ⟨m,_,U,e2,I,U,D⟩
def AG:ax [Us,"end"] [Us,"end"] (aj u7):=cP zk
def yH(F:Qj K "end_of" "end_of" u7 f j)(NK:Fn P w K R r "need_known" 1 [Us,"name",Vl] (db K)):P7 P w K R r ce 2 f j [Us,"end"] nO:=by
 have ZZ:=AG
 walk_at "o"
 ·obtain⟨d,ks,v,e,e',rfl,hN,U',⟨p,rfl,G⟩,hG,q⟩:=h;refine⟨_,ae (aP (cy cC (cB (pv 1) af) (aw<|bj ah ah) U) (ai<|ao<|aw<|bj (cB (pv 1) af)<|cB (cB (ap NK hr U<|du (pv 0) (cB (pv 1) af)<|aw<|aV ah) af) af) ay)
   (ai<|ao<|pv 1),?_⟩
  have D:∀z:Str,ic (.str z) [.str U4,.str Uz]=([U4,Uz]:Vx).contains z:=λz=>dZ z [U4,Uz];cases hG with
  |@w0 s Y=>
   have I:H p=some (.tup [.str s]):=G;refine⟨_,U,p,_,_,_,U,U,P5.of I,aZ,Qa,λt L=>?_⟩;have O:=ag (o:=.tup [.str U4,.str Uz]) L;refine⟨t,_,U,.inr<|P5.of aa,U,U,_,U,aY ?_ ⟨_,U,q _ _ O ⟨p,U,O _ _ I⟩⟩⟩;show ic (.str s) [.str U4,.str Uz]=false;rw[D];simp only[Mo,Mu,l_]at Y;rcases Y with rfl|rfl|rfl<;>decide +kernel
  |fault z=>
   have I:H p=some (.tup [.str Ut,.str z]):=G;refine⟨_,U,p,_,_,_,U,U,P5.of I,aZ,Qa,λt L=>?_⟩;have O:=ag (o:=.tup [.str U4,.str Uz]) L;refine⟨t,_,U,.inr<|P5.of aa,U,U,_,U,aY ?_ ⟨_,U,q _ _ O ⟨p,U,O _ _ I⟩⟩⟩;show ic (.str Ut) [.str U4,.str Uz]=false;decide +kernel
  |@go s z b i Y N=>
   have I:H p=some (.tup [.str s,.str z]):=G;refine⟨_,U,p,_,_,_,U,U,P5.of I,aZ,Qa,λt L=>?_⟩;have O:=ag (o:=.tup [.str U4,.str Uz]) L;refine⟨t,_,U,.inr<|P5.of aa,U,U,_,U,bx ?_ ?_⟩
   ·show ic (.str s) [.str U4,.str Uz]=true;rw[D];exact MV.mpr Y
   generalize aB H t (.tup [V.str U4,.str Uz])=B at*;refine⟨_,U,p,_,_,_,U,U,P5.of<|O _ _ I,aZ,_,U,_,U,p,_,_,_,U,U,P5.of<|O _ _ I,cF,Qa,λM J=>?_⟩;have Z:=ag (o:=.tup [.str U3]) J;refine⟨d,ks,z,U3,M,[U3],b,i,U,hN.same<|O.trans Z,N,U',.inr<|P5.of aa,Mf,λt3 sq X C e2 m=>?_⟩;refine⟨t3,_,_,_,U,U,P5.of e2,cF,sq,_,_,_,U,U,P5.of m,cF,Qa,λp4 n4=>?_⟩;exact q _ _ (((O.trans Z).trans C).trans<|ag n4) ⟨p4,U,aa⟩
def Q1:ax [Us,Vp,"test","yes","sets"] [Us,Vp] (aj md):=cP zk
def LU:([UX,Us]:Vx).Nodup:=by decide +kernel
def iI(F:Qj K "deed_of" "deed_of" md f fd)(B:Bl C)(TO:Fn P w K C r "test_of" 2 [Us,"test"] nN)(EO:Fn P w K C r "end_of" 2 [Us,"end"] nO)(SO:Fn P w K C r "set_of" n [Us,UX] (qN m0))(DO:Fn P w K C r "deed_of" n [Us,Vp] (jR m0 m))(hn:2<=n):P7 P w K C r ce (n+1) f fd [Us,Vp] (jR m0<|m+1):=by
 have ZZ:=Q1
 walk_at "o"
 ·obtain⟨d,ks,v,b,b',rfl,hN,U',hV,hG,hD,hS,q⟩:=h;have N9:P9 2 _:=hr.mono zo;refine⟨_,ae (aP (bY aR (cB (pv 1) af) ah)
    (ae (bP 2 Q1.nd<|ap TO N9 U<|bj (pv 0)<|cB (pv 1) af)
    (ae (bP 3 Q1.nd<|ap DO hr U<|bj (pv 0)<|cB (pv 1) af)
    (ai<|ao<|aw<|jF ah (pv 2) (pv 3)<|ap DO hr U<|bj (pv 0)<|cB (pv 1) af))) ay)
   (ae (bP 4 Q1.nd<|aU bQ (by rfl) B.tuple cu<|aV (gu (N':=[UX,Us]) (ix:=[none,some 0]) (sc0:=aj md) (N:=[Us,Vp,"test","yes","sets"]) U zk (hI<|cB (pv 1) af)
     (λC' cl s H fp=>gZ (i:=0) LU) (λ_ _ _ _ _=>eM) (λC' cl s H fp=>ap SO hr U<|bj (pv 1)<|pv 0)))
   (ai<|ao<|aw<|du ah (pv 4)<|ap EO N9 U<|bj (pv 0)<|cB (pv 1) af)),?_⟩
  cases hG with
  |@ite t z t' y n' y' et ht hy WO=>
   obtain⟨p,u,a,bb,rfl,I,X,ha,hb⟩:=hV;cases m with
   |zero=>simp[CI]at hD
   |succ m=>
    have X0:CI y<=m/\CI n'<=m:=by
     simp only[CI]at hD;lia
    refine⟨_,U,p,_,_,_,U,U,P5.of I,aZ,U,_,U,bx (b_ U) ?_⟩;refine⟨_,U,_,U,p,_,_,_,U,U,P5.of I,cF,d,ks,u,t,z,t',U,hN,U',X,ht,λu1 J O v1=>?_⟩;refine⟨_,U,_,U,p,_,_,_,U,U,P5.of<|O _ _ I,iW,d,ks,a,y,y',U,hN.same O,U',ha.kt<|ak O,hy,X0.1,hS.1,λu2 Z D v2=>?_⟩;have Og:=O.trans D;refine⟨_,U,_,U,_,U,_,U,p,_,_,_,U,U,P5.of<|Og _ _ I,Dz,d,ks,bb,n',et,U,hN.same Og,U',hb.kt<|ak Og,WO,X0.2,hS.2,λu3 H3 G v3=>⟨Qa,λp4 n4=>?_⟩⟩;have L:=ag (o:=.tup [.str Vf,u1,u2,u3]) n4;exact q _ _ ((Og.trans G).trans L) ⟨p4,u1,u2,u3,U,aa,v1.kt<|ak<|D.trans<|G.trans L,v2.kt<|ak<|G.trans L,v3.kt<|ak L⟩
  |@leaf s s' e e' hs he=>
   obtain⟨p,qs,us,u,rfl,I,hq,Od,X⟩:=hV;have sz:(1000:Nat)<=sizeLine:=by decide
   refine⟨_,U,p,_,_,_,U,U,P5.of I,aZ,U,_,U,aY zk ?_⟩;refine⟨_,U,p,_,_,_,U,U,P5.of I,cF,qs,U,⟨_,P5.of hq⟩,?_⟩;have l1:=Od.length;have l2:=hs.length;have l4:=hS.2;refine uV (K:=K) (a:=qs) (xs:=us) (λi j M=>P4 H M/\j.length=i/\i<=us.length/\Paired (λv g=>Qq M g v) j (s'.take i)) ⟨P4.refl _,U,MR _,.nil⟩ (λi j M hi⟨a1,a2,a3,_⟩=>⟨P5.of<|a1 _ _ hq,zo⟩) ?_ ?_
   ·intro i x j J hx z;obtain⟨O,ly,hi,Wq⟩:=z;obtain⟨g,hg,Zn⟩:=fh Od hx;obtain⟨g',WF,ee⟩:=fh hs hg;have Oh:=(Mc.mp hx).1;refine⟨⟨U,trivial⟩,eO ?_⟩;refine⟨_,U,_,U,d,ks,x,g,g',U,hN.same O,U',Zn.kt<|ak O,ee,hS.1 g<|Mr hg,λu2 Z D v2=>?_⟩;refine Nx.mk Oh ⟨O.trans D,by rw[Md,ly];rfl,Oh,?_⟩;rw[MW,WF];exact fF (R:=λv g=>Qq Z g v) v2 (bq (R:=λv g=>Qq J g v) (λ_ _ h=>h.kt<|ak D) Wq)
   ·intro j J z lq ZL;obtain⟨O,ly,_,Wq⟩:=z;rw[show us.length=s'.length by lia,MD]at Wq;generalize Y:aB J lq _=Z;have D:=(nw ZL Y).1;have e2:Z lq=some (.lst j):=(nw ZL Y).2;clear Y;refine⟨lq,_,U,.inl ⟨P8.of e2,λt nt=>?_⟩⟩;generalize Y:aB Z t _=H3;have G:=(nw nt Y).1;have e3:H3 t=some (.tup j):=(nw nt Y).2;clear Y;have Zc:=(O.trans D).trans G;refine⟨_,U,_,U,_,U,p,_,_,_,U,U,P5.of<|Zc _ _ I,iW,d,ks,u,e,e',U,hN.same Zc,U',X.kt<|ak Zc,he,λu4 H4 L v4=>⟨Qa,λp5 n5=>?_⟩⟩;have s5:=ag (o:=.tup [.str Vk,.ref t,u4]) n5;exact q _ _ ((Zc.trans L).trans s5) ⟨p5,t,j,u4,U,aa,s5 _ _<|L _ _ e3,bq (R:=λv g=>Qq J g v) (λ_ _ h=>h.kt<|ak<|D.trans<|G.trans<|L.trans s5) Wq,v4.kt<|ak s5⟩
end
def xi(e:Vx):List (di×V):=e.map λz=>(Sum.inr z,.bl true)
def Fg:∀{t:Vx}{z:Str},z∉t->bA (xi t) (Sum.inr z)=none
 |[],_,_=>sF
 |x::t,z,h=>by
  unfold xi;rw[Mz,cr]
  ·exact Fg (λm=>h<|Mn _ m)
  ·intro e;exact h (by rw[<-TJ e];exact Mf)
inductive RL(H:Hp)(u:V)(x:Kn):Prop
 |mk(p tf b e:_):u=.ref p->H p=some (.tup [.str x.name,.ref tf,b])->H tf=some (.tup e)->Paired (Qp H) e x.fs->RD H x.dd b->RL H u x
def RL.kt(k:Qi H t)(h:RL H u x):RL t u x:=by obtain⟨p,q,b,o,a,c,d,e,f⟩:=h;exact ⟨p,q,b,o,a,k _ _ c,k _ _ d,bq (λ_ _ h=>h.kt k) e,f.kt k⟩
structure GE(ks:List Ne)(x:Kn):Prop where
 nd:((ks++fN x.fs).map (·.1)).Nodup
 l3:x.fs.length<=3
 bn:GD (ks++fN x.fs) x.bd x.dd
 b3:CI x.bd<=3
 s3:tw 3 x.bd
inductive GF(vs:VA)(H:Hp)(Q:VK)(o:XK):Prop
 |mk(d tk t ks Oc:_):vs=[.ref d,.ref tk]->Q9 H d ks->H tk=some (.tup t)->Paired (QV H) t Oc->(Oc.map Kn.name).Nodup->(∀x∈Oc,GE ks x)->ks.length<=10->Oc.length<=8->(∀p YM e,P4 H e->H p=none->e p=some (.tup YM)->Paired (RL e) YM Oc->Q (.ref p) e)->GF vs H Q o
structure NI(H:Hp)(Oc:List Kn)(ln lt:Vr)(i:Nat)(H':Hp):Prop where
 sm:P4 H H'
 n1:H ln=none
 n2:H lt=none
 ne:ln≠lt
 ls:∃us,H' ln=some (.lst us)/\us.length=i/\Paired (RL H') us (Oc.take i)
 tk:H' lt=some (.dK<|xi<|(Oc.take i).map Kn.name)
section
def RU:ax [Us,UE,"named","taken","name",U9,Vp,Vd] [Us,UE] (aj im):=cP zk
def Ja(F:Qj K "kinds_named" "kinds_named" im f fd)(B:Bl j)(NW:Fn P w K j e "names_with_fields" 2 [Us,U9] AE)(DO:Fn P w K j e "deed_of" n [Us,Vp] (jR 3 4))(hn:2<=n):P7 P w K j e ce (n+1) f fd [Us,UE] GF:=by
 have ZZ:=RU
 walk_at "o"
 ·obtain⟨d,tk,us,ks,z,rfl,hN,M,C,U',WP,ed,h8,q⟩:=h;have X:=eE hr;have N9:P9 2 _:=hr.mono zo;have sz:(1000:Nat)<=sizeLine:=by decide
  refine⟨_,ae (bP 2 RU.nd<|aM bN)
   (ae (bP 3 RU.nd m5)
   (ae (cU h_ U (hI<|pv 1) (cA U<|aq (eQ 4 RU.nd)<|aq (eQ 5 RU.nd)<|aq (eQ 6 RU.nd) bi)
    (ae (aP (uF<|zX X (pv 4)<|pv 3) (ai dv) ay)
    (ae (fS X (pv 3) (pv 4) gQ U)
    (ae (bP 7 RU.nd<|ap DO hr U<|bj (ap NW N9 U<|bj (pv 0)<|pv 5)<|pv 6)
    (ai<|aL<|cx Mw My Mx bu (pv 2)<|aV<|aw<|du (pv 4) (pv 5)<|pv 7)))))
   (ai<|ao<|aU bQ (by rfl) B.tuple cu<|aV<|pv 2))),?_⟩
  have lk:=C.length;refine⟨Qa,λZ n1=>?_⟩;generalize zz:aB H Z _=r;have s1:=(nw n1 zz).1;have e1:=(nw n1 zz).2;clear zz;refine λlt N=>?_;have s2:=ag (o:=.dK []) N;have e2:(aB r lt<|.dK []) lt=some (.dK []):=aa;have I0:NI H z Z lt 0 (aB r lt<|.dK []):=⟨s1.trans s2,n1,s1.free N,au e1 N,⟨[],s2 _ _ e1,U,.nil⟩,e2⟩;generalize aB r lt (.dK ([]:List (di×V)))=H2 at*;refine⟨_,U,tk,U,⟨_,P5.of<|I0.sm _ _ M⟩,?_⟩;refine lU (K:=K) (a:=tk) (xs:=us) (λi t R=>∃v4 v5 v6 v7:Option V,t=[some<|.ref d,some<|.ref tk,some<|.ref Z,some<|.ref lt,v4,v5,v6,v7]/\NI H z Z lt i R) ⟨_,_,_,_,U,I0⟩ (λi t R _ zz=>by obtain⟨_,_,_,_,_,I⟩:=zz;exact P5.of (I.sm _ _ M)) ?_ ?_
  ·intro i x t Y hx z;obtain⟨v4,v5,v6,v7,rfl,I⟩:=z;obtain⟨y,v,hK⟩:=fh C hx;have Oh:i<z.length:=(Mc.mp v).1;have ee:z[i]=y:=(Mc.mp v).2;obtain⟨p,tf,b,fu,rfl,hp,Zh,Wn,hb⟩:=hK;have Yd:z.take (i+1)=z.take i++[y]:=by rw[MW,v];rfl
   have O:y∈z:=ee▸MX Oh;have W':y.name∉(z.take i).map Kn.name:=by
    intro hm;have e5:z=z.take i++(y::z.drop (i+1)):=by
     have:=(Nb i z).symm;rw[MZ Oh,ee]at this;exact this
    rw[e5,Mq,Mz]at U';exact(NS.mp U').2.2 _ hm _ Mf rfl
   have G:=Fg W';have g:QE Y lt (.str y.name) none:=by
    have:=QE.k (k:=Sum.inr y.name) I.tk;rw[G]at this;exact this
   refine⟨p,_,U,P5.of<|I.sm _ _ hp,U,_,_,U,_,_,U,_,_,U,U,_,U,_,U,lt,_,U,g,_,U,cD ?_⟩;have el:(xi<|(z.take i).map Kn.name).length<=8:=by
    unfold xi;rw[Me,Me,Mp];lia
   refine⟨_,U,_,U,lt,_,U,QY.k (k:=Sum.inr y.name) I.tk zo,?_⟩;rw[sJ _ G];have et:xi ((z.take i).map Kn.name)++[(Sum.inr y.name,V.bl true)]=xi ((z.take<|i+1).map Kn.name):=by
    unfold xi;rw[Yd,Mq,Mq];rfl
   rw[et];obtain⟨J,m,l3,p3⟩:=I.ls;have k4:Qi Y (aB Y lt<|.dK<|xi<|(z.take<|i+1).map Kn.name):=Fe I.tk;have L:P4 H (aB Y lt<|.dK<|xi<|(z.take<|i+1).map Kn.name):=c7 I.n2 I.sm;have e4:(aB Y lt<|.dK<|xi<|(z.take<|i+1).map Kn.name) Z=some (.lst J):=by rw[al I.ne];exact m
   have t4:(aB Y lt<|.dK<|xi<|(z.take<|i+1).map Kn.name) lt=some (.dK<|xi<|(z.take<|i+1).map Kn.name):=aa;have p4:=bq (λ_ _ h=>RL.kt k4 h) p3;generalize aB Y lt (.dK<|xi<|(z.take<|i+1).map Kn.name)=H4 at*;have ei:Q9 H4 d ks:=let⟨es,a,b2⟩:=hN;⟨es,L _ _ a,bq (λ_ _ h=>h.kt<|ak L) b2⟩;refine⟨_,U,_,U,d,tf,fu,ks,y.fs,U,ei,L _ _ Zh,bq (λ_ _ h=>h.kt<|ak L) Wn,(WP y O).nd,by have:=(WP y O).l3;lia,λd' H5 s5 ec XE=>?_⟩;have er:=L.trans s5;refine⟨_,U,d',ks++fN y.fs,b,y.bd,y.dd,U,XE,(WP y O).nd,hb.kt<|ak er,(WP y O).bn,(WP y O).b3,(WP y O).s3,λb' H6 s6 VQ=>?_⟩;have D:=s5.trans s6;have eh:=L.trans D;refine⟨_,U,.inl ⟨U,_,P8.of<|D _ _ e4⟩,_,U,_,U,_,U,Qa,λpt ZK=>?_⟩;generalize zz:aB H6 pt _=H7;have s7:=(nw ZK zz).1;have ea:=(nw ZK zz).2;clear zz;have e7:=s7 _ _ (D _ _ e4);have ZI:=eh.trans s7;refine⟨Z,_,_,U,U,e7,by rw[l3];lia,?_⟩;have k8:=xc (ys:=J++[V.ref pt]) e7;have en:Qi H4 H7:=ak (D.trans s7);refine⟨_,_,_,_,U,c7 I.n1 ZI,I.n1,I.n2,I.ne,⟨J++[.ref pt],aa,by simp[l3],?_⟩,?_⟩
   ·rw[Yd];refine fF ⟨pt,tf,b',fu,U,k8 _ _ ea,k8 _ _<|ZI _ _ Zh,bq (λ_ _ h=>(h.kt<|ak ZI).kt k8) Wn,(VQ.kt<|ak s7).kt k8⟩ (bq (λ_ _ h=>(RL.kt en h).kt k8) p4)
   ·rw[al I.ne.symm];exact s7 _ _ (D _ _ t4)
  ·intro t Y z;obtain⟨v4,v5,v6,v7,rfl,I⟩:=z;obtain⟨J,m,l3,p3⟩:=I.ls;rw[lk,MD]at p3;refine⟨_,U,Z,J,U,.inl ⟨P8.of m,λp np=>?_⟩⟩;have L:=ag (o:=.tup J) np;exact q p J _ (I.sm.trans L) (I.sm.free np) aa (bq (λ_ _ h=>RL.kt (ak L) h) p3)
end
def ej(h:X.K=K)(z:X.calm=true)(O:Ig X e t)(I:(assignEach e X.env).length=n:=by rfl)(q:(assignEach e X.env).findIdx? (·.1)=none:=by rfl):PG X (.Tuple e k o) (FT K n t):=by
 subst h;exact cA z O I q
def Jb(Y z O L D I:V)(pn q:Vr):List (Str×V):=[(Uj,Y),(Uo,z),(Uq,O),(Ul,L),(Up,D),(UD,I),(UE,.ref pn),(UC,.ref q)]
def KU:Vx:=[Uj,Uo,Uq,Ul,Up,UD,UE,UC]
structure Tc(K:ZF)(C:Vr):Prop where
 cl:R0 K C
 na:∀f∈KU,Qm K C f
abbrev qO:Stmt:=dk ma 0
inductive qP(C:Vr)(vs:VA)(H:Hp)(Q:VK)(i:XK):Prop
 |mk(x t vw vc vd vp vm vg pk o Oc:_):vs=[.ref x,vw,vc,vd,vp,vm,vg,.ref pk]->H x=some (.ins C t [])->H pk=some (.tup o)->Paired (RL H) o Oc->Oc.length<=8->(∀pn e,e x=some (.ins C t<|Jb vw vc vd vp vm vg pn pk)->H pn=none->e pn=some (.tup<|am<|Oc.map Kn.name)->Qc x H e->Q .non e)->qP C vs H Q i
section
def DI:ax [Ui,Uj,Uo,Uq,Ul,Up,UD,UC] [Ui,Uj,Uo,Uq,Ul,Up,UD,UC] (aj qO):=cP zk
def GG:(["name",U9,Vd]:Vx).Nodup:=by decide +kernel
def AH(F:Qj K "__init__" "Table.__init__" qO f fd)(T:Tc K C)(B:Bl mg):P7 P w K mg R ce 1 f fd [Ui,Uj,Uo,Uq,Ul,Up,UD,UC] (qP C):=by
 have ZZ:=DI
 walk_at "o"
 ·obtain⟨x,O,I,Y,G,J,Z,vg,pk,us,Oc,rfl,t,M,X,h8,q⟩:=h;have sz:(1000:Nat)<=sizeLine:=by decide
  refine⟨_,(ae (fv (pv 0) (pv 1) U)
   (ae (fv (pv 0) (pv 2) U)
   (ae (fv (pv 0) (pv 3) U)
   (ae (fv (pv 0) (pv 4) U)
   (ae (fv (pv 0) (pv 5) U)
   (ae (fv (pv 0) (pv 6) U)
   (ae (fv (pv 0) (aU bQ (by rfl) B.tuple cu<|aV<|gu (N':=["name",U9,Vd]) (ix:=[none,none,none]) (sc0:=aj qO) (N:=[Ui,Uj,Uo,Uq,Ul,Up,UD,UC]) U zk (hI<|pv 7) (λC' cl s H fp=>ej (K:=K) (n:=3) U U<|aq (gZ (i:=0) GG)<|aq (gZ (i:=1) GG)<|aq (gZ (i:=2) GG) bi) (λ_ _ _ _ _=>eM) λC' cl s H fp=>pv 0) U)
   (ai<|fv (pv 0) (pv 7) U)))))))),?_⟩
  have b0:Qc x H H:=Qc.refl _ _;refine⟨_,U,_,U,x,C,O,_,U,t,T.cl,T.na Uj zk,(by show 0<1000;decide),?_⟩;have e1:(aB H x<|.ins C O<|aN Uj I []) x=some (.ins C O<|aN Uj I []):=aa;have b1:Qc x H (aB H x<|.ins C O<|aN Uj I []):=λb o e L=>by rw[al L];exact b0 _ _ e L
  generalize aB H x (.ins C O<|aN Uj I [])=m at*;refine⟨_,U,_,U,x,C,O,_,U,e1,T.cl,T.na Uo zk,(by show 1<1000;decide),?_⟩;have e2:(aB m x<|.ins C O<|aN Uo Y<|aN Uj I []) x=some (.ins C O<|aN Uo Y<|aN Uj I []):=aa;have b2:Qc x H (aB m x<|.ins C O<|aN Uo Y<|aN Uj I []):=λb o e L=>by rw[al L];exact b1 _ _ e L
  generalize aB m x (.ins C O<|aN Uo Y<|aN Uj I [])=v at*;refine⟨_,U,_,U,x,C,O,_,U,e2,T.cl,T.na Uq zk,(by show 2<1000;decide),?_⟩;have e3:(aB v x<|.ins C O<|aN Uq G<|aN Uo Y<|aN Uj I []) x=some (.ins C O<|aN Uq G<|aN Uo Y<|aN Uj I []):=aa;have b3:Qc x H (aB v x<|.ins C O<|aN Uq G<|aN Uo Y<|aN Uj I []):=λb o e L=>by rw[al L];exact b2 _ _ e L
  generalize aB v x (.ins C O<|aN Uq G<|aN Uo Y<|aN Uj I [])=j at*;refine⟨_,U,_,U,x,C,O,_,U,e3,T.cl,T.na Ul zk,(by show 3<1000;decide),?_⟩;have e4:(aB j x<|.ins C O<|aN Ul J<|aN Uq G<|aN Uo Y<|aN Uj I []) x=some (.ins C O<|aN Ul J<|aN Uq G<|aN Uo Y<|aN Uj I []):=aa;have b4:Qc x H (aB j x<|.ins C O<|aN Ul J<|aN Uq G<|aN Uo Y<|aN Uj I []):=λb o e L=>by rw[al L];exact b3 _ _ e L
  generalize aB j x (.ins C O<|aN Ul J<|aN Uq G<|aN Uo Y<|aN Uj I [])=H4 at*;refine⟨_,U,_,U,x,C,O,_,U,e4,T.cl,T.na Up zk,(by show 4<1000;decide),?_⟩;have e5:(aB H4 x<|.ins C O<|aN Up Z<|aN Ul J<|aN Uq G<|aN Uo Y<|aN Uj I []) x=some (.ins C O<|aN Up Z<|aN Ul J<|aN Uq G<|aN Uo Y<|aN Uj I []):=aa;have b5:Qc x H (aB H4 x<|.ins C O<|aN Up Z<|aN Ul J<|aN Uq G<|aN Uo Y<|aN Uj I []):=λb o e L=>by rw[al L];exact b4 _ _ e L
  generalize aB H4 x (.ins C O<|aN Up Z<|aN Ul J<|aN Uq G<|aN Uo Y<|aN Uj I [])=H5 at*;refine⟨_,U,_,U,x,C,O,_,U,e5,T.cl,T.na UD zk,(by show 5<1000;decide),?_⟩;have e6:(aB H5 x<|.ins C O<|aN UD vg<|aN Up Z<|aN Ul J<|aN Uq G<|aN Uo Y<|aN Uj I []) x=some (.ins C O<|aN UD vg<|aN Up Z<|aN Ul J<|aN Uq G<|aN Uo Y<|aN Uj I []):=aa;have b6:Qc x H (aB H5 x<|.ins C O<|aN UD vg<|aN Up Z<|aN Ul J<|aN Uq G<|aN Uo Y<|aN Uj I []):=λb o e L=>by rw[al L];exact b5 _ _ e L
  generalize aB H5 x (.ins C O<|aN UD vg<|aN Up Z<|aN Ul J<|aN Uq G<|aN Uo Y<|aN Uj I [])=H6 at*;have en:pk≠x:=by
   rintro rfl;rw[M]at t;cases t
  have et:=b6 _ _ M en;have k6:Qi H H6:=b6.kt t;have ei:=bq (λ_ _ h=>RL.kt k6 h) X;have lk:=X.length;refine⟨_,U,pk,U,⟨_,P5.of et⟩,?_⟩;refine uV (K:=K) (a:=pk) (xs:=us) (λi d r=>r=H6/\d=am ((Oc.take i).map Kn.name)) ⟨U,U⟩ (λi d r hi⟨a1,a2⟩=>by
    subst a1 a2;refine⟨P5.of et,?_⟩;unfold am;rw[Me,Me,Mp];lia) ?_ ?_
  ·rintro i z d r hz ⟨rfl,rfl⟩;obtain⟨y,hy,p,tf,bb,fu,rfl,XS,_⟩:=fh ei hz;have Oh:i<us.length:=(Mc.mp hz).1;refine⟨p,_,U,P5.of XS,U,_,_,U,_,_,U,_,_,U,U,trivial,eO ?_⟩;refine⟨_,U,Nx.mk Oh ⟨U,?_⟩⟩;rw[MW,hy];unfold am;simp
  ·rintro d r ⟨rfl,rfl⟩ D hD;rw[lk,MD];generalize zz:aB r D _=H7;have s7:=(nw hD zz).1;have e7:H7 D=some (.lst<|am<|Oc.map Kn.name):=(nw hD zz).2;clear zz;have x7:=s7 _ _ e6;refine⟨D,_,U,.inl ⟨P8.of e7,λpn ee=>?_⟩⟩;generalize zz:aB H7 pn _=H8;have s8:=(nw ee zz).1;have e8:H8 pn=some (.tup<|am<|Oc.map Kn.name):=(nw ee zz).2;clear zz;have x8:=s8 _ _ x7;have b8:=(b6.same s7).same s8;have nH:H pn=none:=jO (b6.same s7) x7 ee;have ea:pn≠x:=by
    rintro rfl;rw[nH]at t;cases t
   refine⟨_,U,x,C,O,_,U,x8,T.cl,T.na UE zk,(by show 6<1000;decide),_,U,_,U,x,C,O,_,U,aa,T.cl,T.na UC zk,(by show 7<1000;decide),?_⟩;refine q pn _ ?_ nH ?_ ?_
   ·rw[aa];rfl
   ·rw[al ea,al ea];exact e8
   ·intro b o e L;rw[al L,al L];exact b8 _ _ e L
end
def jy(st:Str)(l:Vx):List Ne:=l.mapIdx λi z=>(z,st,false,i)
def nQ(st:Str)(l:Vx)(i:Nat):(jy st l)[i]?=l[i]?.map λz=>(z,st,false,i):=by unfold jy;rw[List.getElem?_mapIdx]
def fU(st:Str)(l:Vx):(jy st l).length=l.length:=by unfold jy;simp
def iX(D:Fm):List Ne:=jy Uh D.places++jy Uk D.marks
def tD(D:Fm):V:=match D.gates with
 |[]=>.non
 |z::_=>.str z
structure tH(D:Fm):Prop where
 nd:((iX D).map (·.1)).Nodup
 gt:∀z∈D.gates,z∈D.marks
 g1:D.gates.length<=1
 kn:(D.kinds.map Kn.name).Nodup
 kf:∀x∈D.kinds,GE (iX D) x
 p4:D.places.length<=4
 m3:D.marks.length<=3
 k8:D.kinds.length<=8
inductive QK(C:Vr)(H:Hp)(v:V)(D:Fm):Prop
 |mk(a t pp pm pn pk e:_):v=.ref a->H a=some (.ins C t<|Jb (.int D.width) (.int D.cells) (.int D.depth) (.ref pp) (.ref pm) (tD D) pn pk)->H pp=some (.tup<|am D.places)->H pm=some (.tup<|am D.marks)->H pn=some (.tup<|am<|D.kinds.map Kn.name)->H pk=some (.tup e)->Paired (RL H) e D.kinds->QK C H v D
inductive GH(C:Vr)(vs:VA)(H:Hp)(Q:VK)(t:XK):Prop
 |mk(u D:_):vs=[u]->Az H u D->tH D->(∀v e,P4 H e->QK C e v D->Q v e)->GH C vs H Q t
def AI{A B:List Ne}{x:Ne}(h:((A++x::B).map (·.1)).Nodup):x.1∉A.map (·.1):=by
 rw[Mq,Mz]at h;intro q;exact(NS.mp h).2.2 _ q _ Mf rfl
section
def QN:ax ["form",Uj,Uo,Uq,Ul,Up,"gates",UE,Us,"i","name",UD,UC] ["form"] (aj gH):=cP zk
inductive AJ(p:Vr)(D:Fm)(pp:Vr)(pm:Vr)(pg:Vr)(pk:Vr)(H:Hp)(t:St)(e:Hp):Prop
 |mk(d:Vr)(v9 Wj VM Xj:Option V):t=[some<|.ref p,some<|.int D.width,some<|.int D.cells,some<|.int D.depth,some<|.ref pp,some<|.ref pm,some<|.ref pg,some<|.ref pk,some<|.ref d,v9,Wj,VM,Xj]->H d=none->P4 H e->Q9 e d (jy Uh D.places)->AJ p D pp pm pg pk H t e
inductive AK(p:Vr)(D:Fm)(pp:Vr)(pm:Vr)(pg:Vr)(pk:Vr)(H:Hp)(t:St)(e:Hp):Prop
 |mk(d:Vr)(v9 Wj VM Xj:Option V):t=[some<|.ref p,some<|.int D.width,some<|.int D.cells,some<|.int D.depth,some<|.ref pp,some<|.ref pm,some<|.ref pg,some<|.ref pk,some<|.ref d,v9,Wj,VM,Xj]->H d=none->P4 H e->Q9 e d (iX D)->AK p D pp pm pg pk H t e
inductive AL(p:Vr)(D:Fm)(pp:Vr)(pm:Vr)(pg:Vr)(pk:Vr)(H:Hp)(t:St)(e:Hp):Prop
 |mk(d:Vr)(v9 Wj VM Xj:Option V):t=[some<|.ref p,some<|.int D.width,some<|.int D.cells,some<|.int D.depth,some<|.ref pp,some<|.ref pm,some<|.ref pg,some<|.ref pk,some<|.ref d,v9,Wj,VM,Xj]->VM=some (tD D)->H d=none->P4 H e->Q9 e d (iX D)->AL p D pp pm pg pk H t e
def Jc{f:Vr}{fd eh:Vw}{n:Nat}(F:Qj K "table_of_form" "table_of_form" gH f fd)(B:Bl N)(B3:Ff N)(MK:Mk K C fi)(ez:N "Table"=some (.ref C))(IN:P7 P w K N m ce 1 fi eh [Ui,Uj,Uo,Uq,Ul,Up,UD,UC] (qP C))(bI:Qk K eh [Ui,Uj,Uo,Uq,Ul,Up,UD,UC] [])
  (AN:Fn P w K N m "add_name" 1 [Us,"name",UZ,"sel"] iH) (NK:Fn P w K N m "need_known" 1 [Us,"name",Vl] (db K)) (KN:Fn P w K N m "kinds_named" n [Us,UE] GF) (hn:3<=n):P7 P w K N m ce (n+1) f fd ["form"] (GH C):=by
 have ZZ:=QN
 walk_at "o"
 ·obtain⟨u,D,rfl,⟨p,pp,pm,pg,pk,us,rfl,hp,XS,W4,ed,YU,Od⟩,I,q⟩:=h;have N8:P9 1 _:=hr.mono zo;have N9:P9 2 _:=hr.mono zo;have sz:(1000:Nat)<=sizeLine:=by decide
  refine⟨_,ae (gB (pv 0)<|cA U<|aq (eQ 1 QN.nd)<|aq (eQ 2 QN.nd)<|aq (eQ 3 QN.nd)<|aq (eQ 4 QN.nd)<|aq (eQ 5 QN.nd)<|aq (eQ 6 QN.nd)<|aq (eQ 7 QN.nd) bi)
   (ae (bP 8 QN.nd m5)
   (bH (AJ p D pp pm pg pk H) (cU h_ U (m7 U B3.enumerate<|aV<|pv 4) (cA U<|aq (eQ 9 QN.nd)<|aq (eQ 10 QN.nd) bi)<|ai<|aL<|ap AN N8 U<|jF (pv 8) (pv 10) ah<|aw<|bj ah<|pv 9)
   (bH (AK p D pp pm pg pk H) (cU h_ U (m7 U B3.enumerate<|aV<|pv 5) (cA U<|aq (eQ 9 QN.nd)<|aq (eQ 10 QN.nd) bi)<|ai<|aL<|ap AN N8 U<|jF (pv 8) (pv 10) ah<|aw<|bj ah<|pv 9)
   (ae (bP 11 QN.nd gY)
   (bH (AL p D pp pm pg pk H) (cU h_ U (hI<|pv 6) (eQ 10 QN.nd)<|ae (aL<|ap NK N8 U<|du (pv 8) (pv 10)<|aw<|aV ah)<|ai<|bP 11 QN.nd<|pv 10)
   (ae (bP 12 QN.nd<|ap KN hr U<|bj (pv 8)<|pv 7)
   (ai<|ao<|wO MK IN N9 U ez bI .nil lL<|be (pv 1)<|be (pv 2)<|HK (pv 3) (pv 4) (pv 5) (pv 11)<|pv 12))))))),?_⟩
  refine⟨_,U,p,_,U,P5.of hp,U,_,_,U,_,_,U,_,_,U,_,_,U,_,_,U,_,_,U,_,_,U,U,?_⟩;refine λd nd=>?_;have s1:=ag (o:=.dK []) nd;have I1:Q9 (aB H d<|.dK []) d []:=⟨[],aa,.nil⟩;generalize aB H d (.dK ([]:List (di×V)))=H1 at*;refine⟨?_,?_⟩
  ·intro e H2 z;obtain⟨d,v9,Wj,VM,Xj,rfl,nd,s2,I2⟩:=z;refine⟨?_,?_⟩
   ·intro e H3 z;obtain⟨d,v9,Wj,VM,Xj,rfl,nd,s3,I3⟩:=z;refine⟨?_,?_⟩
    ·intro e H4 z;obtain⟨d,v9,Wj,VM,Xj,rfl,rfl,nd,s4,I4⟩:=z;refine⟨_,U,_,U,d,pk,us,iX D,D.kinds,U,I4,s4 _ _ YU,bq (λ_ _ h=>QV.kt (ak s4) h) Od,I.kn,I.kf,?_,I.k8,λp5 el H5 s5 n5 e5 k5=>?_⟩
     ·unfold iX;rw[Md,fU,fU];have:=I.p4;have:=I.m3;lia
     have eT:=s4.trans s5;refine⟨_,U,_,U,_,U,_,U,_,U,_,U,_,U,λx X nx ei ne=>?_⟩;refine⟨x,X,_,_,_,_,_,_,p5,el,D.kinds,U,aa,(c7 nx<|ag ei) _ _ e5,bq (λ_ _ h=>RL.kt (ak<|c7 nx<|ag ei) h) k5,I.k8,λpn H7 e7 eN ec b7=>⟨U,?_⟩⟩;have en:P4 H5 H7:=gx nx (c7 nx<|ag ei) b7;have ZI:=eT.trans en;exact q _ _ ZI ⟨x,X,pp,pm,pn,p5,el,U,e7,ZI _ _ XS,ZI _ _ W4,ec,en _ _ e5,bq (λ_ _ h=>RL.kt (ak en) h) k5⟩
    ·refine⟨_,U,pg,U,⟨_,P5.of<|s3 _ _ ed⟩,?_⟩;refine lU (K:=K) (a:=pg) (xs:=am D.gates) (λi e Y=>∃(v9 Wj VM Xj:Option V),e=[some<|.ref p,some<|.int D.width,some<|.int D.cells,some<|.int D.depth,some<|.ref pp,some<|.ref pm,some<|.ref pg,some<|.ref pk,some<|.ref d,v9,Wj,VM,Xj]/\VM=some (if i=0 then .non else tD D)/\P4 H Y/\Q9 Y d (iX D)) ⟨_,_,_,_,U,U,s3,I3⟩ (λi e Y _ zz=>by obtain⟨_,_,_,_,_,_,R,_⟩:=zz;exact P5.of (R _ _ ed)) ?_ ?_
     ·intro i x e Ha O z;obtain⟨w9,ee,et,ea,rfl,rfl,Z,L⟩:=z;have er:=I.g1;have VP:=I.gt;have XM:i<(am D.gates).length:=(Mc.mp O).1;unfold am at O XM;rw[Me]at XM;cases hgs:D.gates with
      |nil=>rw[hgs]at XM;simp at XM
      |cons z r=>
       rw[hgs]at O XM er VP;have ev:i=0:=by simp only[Mg]at er XM;lia
       subst ev;have ew:x=.str z:=by simpa using O.symm
       subst ew;have ek:=VP z Mf;refine⟨_,U,_,U,Qa,λt nt=>?_⟩;have sb:=ag (o:=.tup [.str Uk]) nt;obtain⟨gi,ey⟩:=List.getElem?_of_mem ek;refine⟨d,iX D,z,Uk,t,[Uk],false,gi,U,L.same sb,?_,I.nd,.inr<|P5.of aa,by simp,λqq sl Hb v eb _=>?_⟩
       ·exact Mj _ (Mr<|by rw[nQ,ey];rfl)
       refine⟨_,U,_,_,_,_,U,?_,(Z.trans sb).trans v,(L.same sb).same v⟩;rw[f_ zo];unfold tD;rw[hgs]
     ·intro e Ha z;obtain⟨w9,ee,et,ea,rfl,rfl,Z,L⟩:=z;refine⟨d,_,_,_,_,U,?_,nd,Z,L⟩;have G:(am D.gates).length=D.gates.length:=by unfold am;rw[Me]
      rw[G];cases hgs:D.gates with
      |nil=>
       unfold tD;rw[hgs];rfl
      |cons z r=>rw[f_<|by simp]
   ·refine⟨_,U,pm,U,⟨_,P5.of<|s2 _ _ W4⟩,?_⟩;refine kK (K:=K) (l:=pm) (xs:=am D.marks) (λi e Y=>∃(v9 Wj VM Xj:Option V),e=[some<|.ref p,some<|.int D.width,some<|.int D.cells,some<|.int D.depth,some<|.ref pp,some<|.ref pm,some<|.ref pg,some<|.ref pk,some<|.ref d,v9,Wj,VM,Xj]/\P4 H Y/\Q9 Y d (jy Uh D.places++(jy Uk D.marks).take i)) ⟨_,_,_,_,U,s2,by simpa using I2⟩ (λi e Y _ zz=>by obtain⟨_,_,_,_,_,R,_⟩:=zz;exact P5.of (R _ _ W4)) ?_ ?_
    ·intro i x e Ha T1 O nT z;obtain⟨w9,ee,et,ea,rfl,Z,L⟩:=z;obtain⟨z,j,rfl⟩:∃z,D.marks[i]?=some z/\x=.str z:=by
      unfold am at O;rw[Mt]at O;cases J:D.marks[i]? with
      |none=>rw[J]at O;cases O
      |some z=>rw[J]at O;exact⟨z,U,(MN O).symm⟩
     have Oh:i<D.marks.length:=(Mc.mp j).1;have eg:D.marks[i]=z:=(Mc.mp j).2;have sb:=ag (o:=.tup [.int (i:Int),.str z]) nT;refine⟨T1,_,U,P5.of aa,U,_,_,U,_,_,U,U,_,U,_,U,_,U,Qa,λt nt=>?_⟩;have v:=ag (o:=.tup [.str "is",.int (i:Int)]) nt;have M:=Z.trans (sb.trans v);have W_:(jy Uk D.marks)[i]?=some (z,(Uk:Str),false,i):=by rw[nQ,j];rfl
     have Yn:i<(jy Uk D.marks).length:=by rw[fU];exact Oh
     have Yd:(jy Uk D.marks).take (i+1)=(jy Uk D.marks).take i++[(z,(Uk:Str),false,i)]:=by rw[MW,W_];rfl
     refine⟨d,_,z,Uk,t,false,i,U,L.same<|sb.trans v,aa,?_,?_,λHb Ib bb=>⟨_,_,_,_,U,gx nd M bb,?_⟩⟩
     ·have J:=I.nd;have e5:iX D=(jy Uh D.places++(jy Uk D.marks).take i)++((z,(Uk:Str),false,i)::(jy Uk D.marks).drop (i+1)):=by
       have:=(Nb i<|jy Uk D.marks).symm;rw[MZ Yn,(Mc.mp W_).2]at this;unfold iX;rw[MS];exact e_ (jy Uh D.places++·) this
      rw[e5]at J;exact AI J
     ·simp only[Md,fU,Mp,Mv];have:=I.p4;have:=I.m3;lia
     ·rw[Yd,<-MS];exact Ib
    ·intro e Ha z;obtain⟨w9,ee,et,ea,rfl,Z,L⟩:=z;have G:(am D.marks).length=D.marks.length:=by unfold am;rw[Me]
     rw[G,<-fU Uk,MD]at L;exact⟨d,_,_,_,_,U,nd,Z,L⟩
  ·refine⟨_,U,pp,U,⟨_,P5.of<|s1 _ _ XS⟩,?_⟩;refine kK (K:=K) (l:=pp) (xs:=am D.places) (λi e Y=>∃(v9 Wj VM Xj:Option V),e=[some<|.ref p,some<|.int D.width,some<|.int D.cells,some<|.int D.depth,some<|.ref pp,some<|.ref pm,some<|.ref pg,some<|.ref pk,some<|.ref d,v9,Wj,VM,Xj]/\P4 H Y/\Q9 Y d ([]++(jy Uh D.places).take i)) ⟨_,_,_,_,U,s1,by simpa using I1⟩ (λi e Y _ zz=>by obtain⟨_,_,_,_,_,R,_⟩:=zz;exact P5.of (R _ _ XS)) ?_ ?_
   ·intro i x e Ha T1 O nT z;obtain⟨w9,ee,et,ea,rfl,Z,L⟩:=z;obtain⟨z,j,rfl⟩:∃z,D.places[i]?=some z/\x=.str z:=by
     unfold am at O;rw[Mt]at O;cases J:D.places[i]? with
     |none=>rw[J]at O;cases O
     |some z=>rw[J]at O;exact⟨z,U,(MN O).symm⟩
    have Oh:i<D.places.length:=(Mc.mp j).1;have eg:D.places[i]=z:=(Mc.mp j).2;have sb:=ag (o:=.tup [.int (i:Int),.str z]) nT;refine⟨T1,_,U,P5.of aa,U,_,_,U,_,_,U,U,_,U,_,U,_,U,Qa,λt nt=>?_⟩;have v:=ag (o:=.tup [.str "is",.int (i:Int)]) nt;have M:=Z.trans (sb.trans v);have W_:(jy Uh D.places)[i]?=some (z,(Uh:Str),false,i):=by rw[nQ,j];rfl
    have Yn:i<(jy Uh D.places).length:=by rw[fU];exact Oh
    have Yd:(jy Uh D.places).take (i+1)=(jy Uh D.places).take i++[(z,(Uh:Str),false,i)]:=by rw[MW,W_];rfl
    refine⟨d,_,z,Uh,t,false,i,U,L.same<|sb.trans v,aa,?_,?_,λHb Ib bb=>⟨_,_,_,_,U,gx nd M bb,?_⟩⟩
    ·have J:=I.nd;have e5:iX D=([]++(jy Uh D.places).take i)++((z,(Uh:Str),false,i)::(jy Uh D.places).drop (i+1)++jy Uk D.marks):=by
      have:=(Nb i<|jy Uh D.places).symm;rw[MZ Yn,(Mc.mp W_).2]at this;unfold iX;rw[NO,<-MS];exact e_ (·++jy Uk D.marks) this
     rw[e5]at J;exact AI J
    ·simp only[Md,fU,Mp,Mv];have:=I.p4;have:=I.m3;lia
    ·rw[Yd,<-MS];exact Ib
   ·intro e Ha z;obtain⟨w9,ee,et,ea,rfl,Z,L⟩:=z;have G:(am D.places).length=D.places.length:=by unfold am;rw[Me]
    rw[G,<-fU Uh,MD]at L;exact⟨d,_,_,_,_,U,nd,Z,by simpa using L⟩
end
end L3
namespace PySem
open Sem (wp)
section
open PySem.SeqAt
open PySem.AutoSeq1 (wpAny_loadPart')
open PySem.MeetsSeq PySem.MeetsSeq2 PySem.MeetsSeq3
def Q8(f:Nat->β->Sem (ForInStep β))(I:Vy->β->Vs->Prop)(Q:β->Vs->Prop)
  (V_:∀(x:Nat)(z:Vy)(b:β)(s:Vs),I (x::z) b s->wpAny M A (f x b) (λr e=>match r with|.yield q=>I z q e|.done q=>Q q e) E s)
  (B':∀(b:β)(s:Vs),I [] b s->Q b s) (r:Std.Legacy.Range) (b:β) (h:I (List.range' r.start r.size r.step) b s):wpAny M A (forIn r b f) Q E s:=by
 rw[Std.Legacy.Range.forIn_eq_forIn_range'];exact wpAny_forIn_list f I Q V_ B' _ b h
def Rn(l:Vr)(q:Array Vq)(n:Nat)(Y:Option Vr)(sl:Array (Option Vq))(x:Vq)(e:Vq->Bool)(j:Nat)(hj:j<q.size)(J:e q[j]=true)(C:∀(m:Nat)(X:m<q.size),m<j->e q[m]=false):
  Meets (Builtin.«tuple.index» ⟨[.ref l,x],[]⟩) (λA R s=>s.heap.get? l=some {cls:=.type "tuple",dict:=Y,data:=.seq q n,slots:=sl}/\(∀y∈q,EqAt A.in1 s y x<|e y)/\∀t k,R (.ok<|.ret<|.int j t) {s with toks:=k}):=
 .of_wp λo w A R s h=>by
  obtain⟨M,g,d,tk,os⟩:=s;obtain⟨N,G,h⟩:=h
  wp_walk using I_ N,Q8 _ (λD b r=>b.1=none/\r=⟨M,g,d,tk,os⟩/\∃k,D=List.range' k (q.size-k)/\k<=j) _
  case V_=>
   intro i D b r z;obtain⟨L,rfl,k,hr,v⟩:=z;have I:q.size-k=(q.size-(k+1))+1:=by lia
   rw[I,List.range'_succ]at hr;injection hr with f p;subst f;have z:i<q.size:=by lia
   have Z:q[i]?=some q[i]:=by simp[z]
   rw[Z];have B:=G q[i] (by simp);refine a_ (B o w _ _ ?_);by_cases O:i=j
   ·subst O;rw[J]
    wp_walk
    exact⟨_,U,h _ _⟩
   ·rw[C i z zo]
    wp_walk
    exact⟨U,U,i+1,p,zo⟩
  case B'=>
   intro b r z;obtain⟨L,rfl,k,hr,v⟩:=z;have I:q.size-k=(q.size-(k+1))+1:=by lia
   rw[I,List.range'_succ]at hr;cases hr
  case h=>
   refine⟨U,U,0,?_,MR _⟩;simp[Std.Legacy.Range.size]
end
end PySem
namespace L2
open PySem PySem.Spec PyProof.Rows
section
def tI:Iu X "tuple.index" (λx f H Q=>∃(p:Vr)(e:Vx)(z:Str)(j:Nat),x=.ref p/\f=[.str z]/\P5 X.K H p (e.map V.str)/\e[j]?=some z/\(∀m,m<j->e[m]?≠some z)/\Q (.int (j:Nat)) H):=by
 intro d s B H x f v M Q I rx rv h;obtain⟨p,e,z,j,rfl,rfl,hS,hj,N,q⟩:=h;cases rx;obtain⟨u,rfl,ru⟩:=rv.one;obtain⟨L,r,pl,C⟩:=I.tuple hS;have XI:(e.map V.str).all eU=true:=by
  rw[N6];exact MT.mpr λ_ _=>rfl
 have Y:=r.length;rw[Me]at Y;have Ya:j<e.length:=(Mc.mp hj).1;have Z:∀m(G:m<L.toArray.size),su (.str z) L.toArray[m]=decide (e[m]?=some z):=λm G=>by
  have O:m<e.length:=by rw[Y];simpa using G
  obtain⟨w,ew,X4⟩:=r.get (i:=m) (x:=.str e[m]) (by simp[O]);have e2:L.toArray[m]=w:=by
   have:=(Mc.mp ew).2;simpa using this
  rw[e2,uO X4 U,Mi O];show yl (.str e[m]) (.str z)=_;by_cases hh:e[m]=z
  ·simp[hh,yl]
  ·simp[hh,yl]
 obtain⟨o,there,GS,n,D⟩:=pl;cases o with
 |mk oc R ee Wl=>
  dsimp only at GS D;subst GS D;refine T9 F.slot_tuple_index ⟨_,there,U⟩ F.entry_tuple_index (F.args_tuple_index_2 _ _) (Rn p L.toArray n R Wl u (su<|.str z) j (by simpa[<-Y]using Ya) ?_ ?_) ⟨there,λw hw=>gr ru U r XI w (by simpa using hw),λt k=>⟨.int j,H,I.tok _,⟨t,U⟩,q⟩⟩
  ·rw[Z,hj];simp
  ·intro m G J;rw[Z];simpa using N m J
end
end L2
namespace PySem
open Sem (wp)
open PySem.Spec PyProof.Rows
end PySem
namespace L2
open PySem PySem.Spec PyProof.Rows
section
def tJ(c:Nat):∀(n:Nat)(q:Array Nat),(List.foldl (λ(z O:Array Nat)=>z++O) q<|List.replicate n #[c])=q++(List.replicate n c).toArray
 |0,q=>by simp
 |n+1,q=>by
  rw[List.replicate_succ,List.foldl_cons,tJ c n];apply Array.ext';simp[List.replicate_succ]
def DJ:fM X (binaryOp .Mult) (λx y H Q=>∃(c n:Nat),x=.str (S [c])/\y=.int n/\n<=1000/\Q (.str<|S<|List.replicate n c) H):=by
 intro o s r H x y v u Q I L Y h;obtain⟨c,n,rfl,rfl,J,q⟩:=h;obtain⟨t,rfl⟩:=L;obtain⟨d,rfl⟩:=Y;refine PySem.P.mul_str ?_ ?_ ?_ ?_
 ·simp;lia
 ·intro _ _;have:(S [c]).length=1:=rfl;rw[this];intro G;have:(1:Int)<=(2^63-1) / (n:Int):=by
   rw[Int.le_ediv_iff_mul_le zo];lia
  lia
 ·intro _ _;have:(S [c]).length=1:=rfl;rw[this];unfold Builtin.Str.tooLong;have sz:(1000:Nat)<=sizeLine:=by decide
  simp;lia
 ·have B':∀(z:Str)(t:Tok)(k:Nat),z=S (List.replicate n c)->EP X o r Q (.str z t) {s with toks:=k}:=λz t k e=>by
   subst e;exact⟨.str<|S<|List.replicate n c,H,I.tok k,⟨t,U⟩,q⟩
  have O:∀(z:Str),z=S (List.replicate n c)->(Made.str z).post (EP X o r Q) s:=λz e=>by
   refine⟨?_,B' z _ _ e⟩;subst e;have sz:(1000:Nat)<=sizeLine:=by decide
   rw[aQ,Nu];lia
  by_cases D:(n:Int)<1
  ·rw[g_ D];refine O _ ?_;rw[show n=0 by lia];rfl
  ·rw[f_ D];by_cases i:((n:Int)==1||(S [c]).length==0)=true
   ·rw[g_ i];have:n=1:=by
     have e:(S [c]).length=1:=rfl;rw[e]at i;simp at i;lia
    subst this;exact B' (S [c]) t s.toks rfl
   ·rw[f_ i];refine O _ ?_;have:(S [c]).cps=#[c]:=rfl;rw[this,tJ];simp[S]
end
section
variable{X:Cx}
inductive Fh(r:V->VA->Hp->VK->Prop)(t:TA)(i:St)(Q:VK)(x:V)(e:Hp):Prop
 |mk(p o:_):x=.ref p->e p=some (.tup o)->(t i e λo d=>r x o d Q)->Fh r t i Q x e
def KW(r:V->VA->Hp->VK->Prop)(to:TE)(t:TA):TE:=λe H Q=>to e H λx q=>Fh r t e Q x q
variable{o e:Expr}{d:List Expr}{to:TE}{t:TA}{i:Str}{G' VB:Pos}{id:String}{r:V->VA->Hp->VK->Prop}
def GI(pa:PlainAttrs "tuple")(slot:Slot "tuple" i id)(ZS:typeOf (.builtin id)=pure (.type "method_descriptor"))(C:Iu X id r)(M:PE X o to)(R:PA X (e::d) t)
  (W1:attributeBase o i X.env (eval o X.env)=eval o X.env:=by rfl)
  (q:((backTo VB<|starEach (e::d) X.env).all (λx=>!x.1)&&(backToKw VB<|keywordEach [] X.env).all (λx=>x.1.isSome)
   && decide ((e::d).length+([]:List Keyword).length+(if([]:List Keyword).isEmpty then 0 else 1)<30))=true:=by rfl)
  (WZ:(G'.endLine==VB.line)=true:=by rfl) (hs:starEach (e::d) X.env=(false,eval e X.env)::starEach d X.env:=by rfl) (Xh:(backTo VB<|starEach d X.env).any (·.1)=false:=by rfl) :
  PE X (.Call (.Attribute o i G') (e::d) [] VB) (KW r to t):=by
 refine⟨?_⟩;intro m s f H Q I h;refine wpAny_Call_method_late W1 q WZ U (bL (M m s f H _ I h) λv Z z=>?_);obtain⟨x,O,D,r1,p,xs,ex,B,q1⟩:=z;subst ex;cases r1;obtain⟨_,f',rv,J,L,Y,n,g3⟩:=(show Qe X.prog X.w O Z.heap p (.tup xs)from D.hok p _ B);have gc:=(Ta Y).1;have gd:=(Ta Y).2;refine⟨"tuple",id,pa,slot,ZS,⟨J,L,gc⟩,λa e=>?_,?_⟩
 ·cases e;exact⟨J,L,gd⟩
 have G:=R VB m Z f O _ D q1;rw[hs]at G⊢;refine NQ (by show(false||(backTo VB<|starEach d X.env).any (·.1))=false;rw[Xh]<;>rfl) (Calls.evalArgs_plain ?_);exact bL G λus s2⟨vs,j,N,r2,q2⟩=>C m s2 f j (.ref p) vs _ us Q N U r2 q2
end
end L2
namespace L3
open PySem L2
inductive GJ(C:Vr)(t:VA)(H:Hp)(Q:VK)(o:XK):Prop
 |mk(l:Vy)(D:Fm):t=[.str<|S l]->l.length<=20000->(TK.toks l).length<=1500->qJ ((TK.toks l).map S) D->tH D->(∀v e,P4 H e->QK C e v D->Q v e)->GJ C t H Q o
def DK(e:List (Vy)):vs e=am (e.map S):=by
 unfold vs am;rw[M8];rfl
section
def KY:ax [US] [US] (aj ji):=cP zk
def Jd(F:Qj K "read_table" "read_table" ji f o)(B:Bl t)(J:t "MOST_SIGNS"=some (.int 20000 tM))(TO:Fn P w K t e "tokens_of" 3 [US] vI)(O:Fn P w K t e "read_form" n [UM] vR)(I:Fn P w K t e "table_of_form" m ["form"] (GH C))(hn:3<=n)(i:m<=n):P7 P w K t e ce (n+1) f o [US] (GJ C):=by
 have ZZ:=KY
 walk_at "o"
 ·obtain⟨l,D,rfl,hl,r,G,Z,q⟩:=h;have L:P9 3 _:=hr.mono zo;have Y:P9 m _:=hr.mono i;have sz:(100000:Nat)<=sizeLine:=by decide
  refine⟨_,ae (aP (PW.pt<|fL (dW<|dq<|aC (gF (T:="str")) (by rfl) B.isinstance c8<|bj (pv 0)<|iZ (by rfl) B.str eP)<|dU<|bY sf (aC bX (by rfl) B.len MG<|aV<|pv 0)<|bf (v:=.int 20000) U J ⟨_,U⟩) (ai dv) ay)
   (ai<|ao<|ap I Y U<|aV<|ap O hr U<|aV<|ap TO L U<|aV<|pv 0),?_⟩
  refine⟨_,U,_,_,_,U,.str _,U,_,U,cD ?_⟩;refine⟨_,U,S l,U,(by rw[aQ];lia),_,_,U,U,_,U,aY (c_<|by rw[aQ];lia) ?_⟩;refine⟨_,U,l,U,zo,λp X np e1 N=>?_⟩;rw[DK]at e1;refine⟨p,_,D,U,e1,by rw[Me];exact r,G,λu H2 R d=>?_⟩;exact⟨u,D,U,d,Z,λv z M j=>q v z (N.trans<|R.trans M) j⟩
end
abbrev qQ:Stmt:=dk ma 1
abbrev lB:Stmt:=dk ma 2
abbrev AM:Stmt:=dk ma 3
def tK{l:Vx}(D:l.Nodup){j:Nat}{z:Str}(h:l[j]?=some z):∀m,m<j->l[m]?≠some z:=by
 intro m I e;have t:=(Mc.mp h).1;have o:=(Mc.mp h).2;have q:=(Mc.mp e).1;have O:=(Mc.mp e).2;exact List.pairwise_iff_getElem.mp D m j q t I (by rw[o,O])
def lN:∀{o:List α}{r:List β},Paired R o r->∀{i:Nat}{y:β},r[i]?=some y->∃x,o[i]?=some x/\R x y
 |_,_,.cons h t,0,y,e=>by
  simp at e;exact⟨_,U,e▸h⟩
 |_,_,.cons h t,i+1,y,e=>by
  obtain⟨x,a,b⟩:=lN t (i:=i) (y:=y) (by simpa using e);exact⟨x,by simpa using a,b⟩
def AO:∀{l:List α},x∈l->∃j:Nat,l[j]?=some x:=λh=>let⟨j,q,e⟩:=Tj h;⟨j,by rw[Mi q,e]⟩
def QK.same(h:QK C H v D)(s:P4 H t):QK C t v D:=
 let⟨a,q,pp,pm,pn,z,o,e,b,c,d,f,g,i⟩:=h
 ⟨a,q,pp,pm,pn,z,o,e,s _ _ b,s _ _ c,s _ _ d,s _ _ f,s _ _ g,bq (λ_ _ h=>RL.kt (ak s) h) i⟩
section
def AQ:ax [Ui,Uv] [Ui,Uv] (aj qQ):=cP zk
def KZ:ax [Ui,Uv] [Ui,Uv] (aj lB):=cP zk
def GK:ax [Ui,Uv] [Ui,Uv] (aj AM):=cP zk
end
def cp(z:Str):Vy:=z.cps.toList
def gK(z:Str):S (cp z)=z:=(z9 z).symm
def gM(l:Vy):cp (S l)=l:=rfl
def tO(l:Vx):(l.map cp).map S=l:=by
 rw[M8];refine Eq.trans ?_ (List.map_id l);exact List.map_congr_left λz _=>gK z
def iq(sep:Vy):∀e:List (Vy),(S sep).join (e.map S)=S (TK.jn sep e)
 |[]=>rfl
 |[t]=>rfl
 |t::u::r=>by
  have q:=iq sep (u::r);show S t++S sep++(S sep).join ((u::r).map S)=S (t++(sep++TK.jn sep (u::r)));rw[q,cE,cE,MS]
def Fi(c:Nat)(t u:Vy)(r:List (Vy)):c∈TK.jn [c] (t::u::r):=by
 show c∈t++([c]++TK.jn [c] (u::r));simp
def AR:∀{a b x y:Vy},c∉a->c∉b->a++(c::x)=b++(c::y)->a=b/\x=y
 |[],[],x,y,_,_,h=>by simpa using h
 |[],b::bs,x,y,_,t,h=>by
  simp at h;exact absurd (h.1▸Mf) t
 |a::as,[],x,y,e,_,h=>by
  simp at h;exact absurd (h.1▸Mf) e
 |a::as,b::bs,x,y,e,t,h=>by
  simp at h;obtain⟨o,i⟩:=h;obtain⟨q,O⟩:=AR (a:=as) (b:=bs) (λz=>e<|Mn _ z) (λz=>t<|Mn _ z) i;exact⟨by rw[o,q],O⟩
def AS:∀{a b:List (Vy)},a≠[]->b≠[]->(∀t∈a,c∉t)->(∀t∈b,c∉t)->TK.jn [c] a=TK.jn [c] b->a=b
 |[],_,h,_,_,_,_=>absurd U h
 |_,[],_,h,_,_,_=>absurd U h
 |[t],[u],_,_,_,_,h=>by
  have:t=u:=h;rw[this]
 |[t],u::v::r,_,_,o,_,h=>by
  have e:t=TK.jn [c] (u::v::r):=h;exact absurd (e▸Fi c u v r) (o t Mf)
 |t::s::q,[u],_,_,_,i,h=>by
  have e:TK.jn [c] (t::s::q)=u:=h;exact absurd (e▸Fi c t s q) (i u Mf)
 |t::s::q,u::v::r,_,_,o,i,h=>by
  have e:t++(c::TK.jn [c] (s::q))=u++(c::TK.jn [c] (v::r)):=h;obtain⟨d,I⟩:=AR (o t Mf) (i u Mf) e;have:=AS (a:=s::q) (b:=v::r) (by simp) (by simp) (λz O=>o z<|Mn _ O) (λz O=>i z<|Mn _ O) I;rw[d,this]
def AU(c:Nat)(o:List (Vy))(q:TK.jn [c] o≠[])(L:∀t∈o,c∉t):Txt.split (S<|TK.jn [c] o) (S [c])=o.map S:=by
 have i:=StrLaws.join_split (S<|TK.jn [c] o) (S [c]);have r:=StrLaws.split_free (S<|TK.jn [c] o) c;have D:(⟨#[c]⟩:Str)=S [c]:=rfl;rw[D]at r;generalize Txt.split (S<|TK.jn [c] o) (S [c])=d at i r;have O:=tO d;rw[<-O,iq]at i;have z:TK.jn [c] (d.map cp)=TK.jn [c] o:=by
  have:=e_ cp i;rw[gM,gM]at this;exact this
 have J:d.map cp≠[]:=by
  intro e;rw[e]at z;exact q z.symm
 have Z:o≠[]:=by
  intro e;rw[e]at q;exact q rfl
 have I:=AS J Z (λt G=>by
  obtain⟨p,Y,rfl⟩:=MQ.mp G;exact r p Y) L z
 rw[<-I,O]
def vW(sep:Vy):∀e:List (Vy),(TK.jn sep e).length<=(e.map List.length).sum+e.length*sep.length
 |[]=>by simp[TK.jn]
 |[t]=>by simp[TK.jn]
 |t::u::r=>by
  have q:=vW sep (u::r);show(t++(sep++TK.jn sep (u::r))).length<=_;rw[Md,Md];simp only[Mz,NY,Mg]at q⊢;have:(r.length+1+1)*sep.length=(r.length+1)*sep.length+sep.length:=by rw[NR (r.length+1) 1,Te]
  lia
def jp(k:Nat):∀e:List (Vy),(∀t∈e,t.length<=k)->(e.map List.length).sum<=e.length*k
 |[],_=>by simp
 |t::r,h=>by
  have z:=jp k r (λt q=>h t<|Mn _ q);have:=h t Mf;simp only[Mz,NY,Mg];have:(r.length+1)*k=r.length*k+k:=by rw[NR,Te]
  lia
def qR:(" ":Str)=S [32]:=by decide +kernel
def K1:("\n":Str)=S [10]:=by decide +kernel
def iJ(h:i<2^25):((i:Nat):Int).natAbs.log2<1920:=by
 rw[Int.natAbs_natCast];by_cases q:i=0
 ·rw[q];decide
 ·rw[Nat.log2_lt q];exact Ms h (MH zd zd)
def tQ(a b:Vx):am a++am b=am (a++b):=by unfold am;rw[Mq]
def dc(a:Vx):(am a).length=a.length:=by unfold am;rw[Me]
def xj(D:H l=some (.lst<|am e))(I:H b=some (.lst<|am t))(L:e.length+t.length<=1000000)(q:∀c z,P4 H z->H c=none->z c=some (.lst<|am<|e++t)->Q (.ref c) z):C4 (.ref l) (.ref b) H Q:=by
 have sz:(1000000:Nat)<=sizeLine:=by decide
 refine⟨l,b,_,_,U,U,D,I,by rw[dc,dc];lia,λc O=>?_⟩;rw[tQ];exact q _ _ (ag O) O aa
def dD:∀{m:Nat}{e:Ex},c9 w m e->(dj e).length+3<=2^(m+2)
 |0,.num n,_=>by show 1+3<=_;decide
 |m+1,.num n,_=>by
  have:0<2^m:=NT zd;show 1+3<=2^(m+3);have:2^(m+3)=8*2^m:=by rw[Nat.pow_add];lia
  lia
 |0,.nm z,_=>by show 1+3<=_;decide
 |m+1,.nm z,_=>by
  have:0<2^m:=NT zd;show 1+3<=2^(m+3);have:2^(m+3)=8*2^m:=by rw[Nat.pow_add];lia
  lia
 |0,.cell _,h=>absurd h (by simp[c9])
 |m+1,.cell e,h=>by
  have:=dD (m:=m) (e:=e) h;have t:2^(m+1+2)=2*2^(m+2):=by rw[show m+1+2=m+2+1 by lia,NN];lia
  simp only[dj,Mg,Md,Mv];lia
 |0,.two _ _ _,h=>absurd h (by simp[c9])
 |m+1,.two o x y,h=>by
  have i:=dD (m:=m) (e:=x) h.2.1;have q:=dD (m:=m) (e:=y) h.2.2;have t:2^(m+1+2)=2*2^(m+2):=by rw[show m+1+2=m+2+1 by lia,NN];lia
  simp only[dj,Mg,Md,Mv];lia
def xk(h:kZ w g):(jN g).length<=62:=by
 cases g with
 |cell a e=>
  have o:=dD h.1;have t:=dD h.2;simp only[jN,Mg,Md,Mv];lia
 |nm z e=>
  have t:=dD h.2;simp only[jN,Mg,Md,Mv];lia
def pr:∀{s:List Gs},(∀g∈s,kZ w g)->(bS s).length<=63*s.length
 |[],_=>MR _
 |g::r,h=>by
  have e:=xk (h g Mf);have t:=pr λx q=>h x (Mn _ q);simp only[bS,Mg,Md];lia
def xm(e:En):(gX e).length<=2:=by cases e<;>simp[gX]
def jS:∀{m:Nat}{b:Bd},fE w m b->(dz b).length+10<=500*2^m
 |m,.leaf s e,h=>by
  have i:s.length<=4:=by cases m<;>exact h.1
  have o:∀g∈s,kZ w g:=by cases m<;>exact h.2.1
  have q:=pr o;have O:=xm e;have:0<2^m:=NT zd;simp only[dz,Mg,Md,Mv];lia
 |0,.ite _ _ _ _,h=>absurd h (by simp[fE])
 |m+1,.ite t z y n,h=>by
  have i:=jS (m:=m) (b:=y) h.2.1;have o:=jS (m:=m) (b:=n) h.2.2;have q:2^(m+1)=2*2^m:=by rw[NN];lia
  have O:(if t then [(UW:Str),z]else [z]).length<=2:=by cases t<;>simp
  simp only[dz,Mg,Md,Mv];lia
def ir [DecidableEq κ](e:List (κ×V))(k:κ)(v:V):(bh e k v).length<=e.length+1:=by
 unfold bh;split<;>simp
def xn{t:Vx}{i:Nat}{x:V}(h:(am t)[i]?=some x):∃z,t[i]?=some z/\x=.str z:=by
 unfold am at h;rw[Mt]at h;cases e:t[i]? with
 |none=>rw[e]at h;cases h
 |some z=>rw[e]at h;exact⟨z,U,(MN h).symm⟩
def fV(D:Fm):Vx:=[(UI:Str),(toString (D.width:Int):Str),";",Uo,(toString (D.cells:Int):Str),";",Uq,(toString (D.depth:Int):Str),";"]++([(Ul:Str)]++D.places++[(";":Str)])++([(Up:Str)]++D.marks++[(";":Str)])++[(UD:Str)]++D.gates++[(";":Str)]
def qS(e:Vz):Vx:=e.flatMap λx=>[x.1,x.2,","]
def eC(e:Vz):Vx:=(qS e).take ((qS e).length-1)
def cw(x:Kn):Vx:=[(Uv:Str),x.name,("(":Str)]++eC x.fs++[(")":Str)]++dz x.bd
def pw(e:Vx)(n:Nat):(am e).take n=am (e.take n):=by unfold am;rw[List.map_take]
def tR(e:Vz):(qS e).length=3*e.length:=by
 induction e with
 |nil=>rfl
 |cons x r q=>
  unfold qS at*;rw[Nz,Md,q];simp;lia
def dR(e:List (Vy)):VA:=e.map λt=>V.str (S t)
def nR(e:Vx):dR (e.map cp)=am e:=by
 unfold dR am;rw[M8];refine List.map_congr_left λz _=>?_;show V.str (S<|cp z)=V.str z;rw[gK]
def eo(e:List (Vy)):(dR e).length=e.length:=by unfold dR;rw[Me]
def eu(D:Fm):Vx:=fV D++D.kinds.flatMap cw
def ar(e:Vx):Vy:=TK.jn [32] (e.map cp)
def jT(D:Fm)(q:List Kn):List (Vy):=ar (fV D)::q.map λx=>ar (cw x)
def gR(D:Fm):Vy:=TK.jn [10] (jT D D.kinds)
def tU(o:zs.length<=1500)(e:∀z∈zs,(cp z).length<=25):((zs.map cp).map List.length).sum+(zs.map cp).length*[32].length<=100000/\(ar zs).length<=zs.length*26:=by
 have I:=jp 25 (zs.map cp) λt q=>by
  obtain⟨z,O,rfl⟩:=MQ.mp q;exact e z O
 have D:=vW [32] (zs.map cp);rw[Me]at*;simp only[Mg,Mv]at*;unfold ar;lia
def yI{zs:List Kn}(h:∀x∈zs,(ar<|cw x).length<=(cw x).length*26):((zs.map λx=>ar<|cw x).map List.length).sum<=(zs.flatMap cw).length*26:=by
 induction zs with
 |nil=>exact Ml _
 |cons x r z=>
  have e:=h x Mf;have t:=z λy q=>h y (Mn _ q);rw[Nz,Md,Mz,Mz,NY];lia
def jU:∀{l:List Kn},x∈l->(cw x).length<=(l.flatMap cw).length
 |y::r,h=>by
  rw[Nz,Md];rcases Mo.mp h with rfl|h
  ·lia
  ·have:=jU h;lia
def Qn:List (Vy):=[[],[115,101,116],[105,102],[116,111,112],[110,101,120,116],[98],[103,111],[99,97,108,108]]
def nS(q k:Nat):Vy:=[([113,118,106,121,122]:Vy).getD ((q+2*k)%5) 0]++List.replicate (k / 5) 97
def Je(q:Vy)(O z k:Nat):Vy:=if O=0 then q++nS z k else if O=1 then nS z k++q else q.take (k%(q.length+1))++nS z k
def iu(O q z m:Nat):List (Vy):=(List.range m).map (Je (Qn.getD O []) q z)
def SQ:List (Vy):=Q0.map cp
def K2(t:Vy):Bool:=!decide (t=[100,101,101,112]) && !decide (t=[98,97,114,101])&&decide (1<=t.length)&&decide (t.length<=8) && !SQ.contains t&&t.all λc=>decide (97<=c)&&decide (c<=122)
def Kb:List (Vy)->Bool
 |[]=>true
 |t::r=>!r.contains t&&Kb r
def AV:∀{l:List (Vy)},Kb l=true->l.Nodup
 |[],_=>List.nodup_nil
 |t::r,h=>by
  unfold Kb at h;simp at h;exact NH.mpr ⟨h.1,AV h.2⟩
def DL:((List.range 8).all λO=>(List.range 3).all λq=>(List.range 5).all λz=>Kb (iu O q z 10)&&(iu O q z 10).all K2)=true:=by decide +kernel
def Rs(h:S a=S b):a=b:=by
 have:=e_ cp h
 rwa [gM,gM]at this
def de(z:Str):Prop:=Qh z/\z∉([(Vg:Str),(Vh:Str)]:Vx)
def DM(h:K2 t=true):de (S t):=by
 unfold K2 at h;simp only[Nh,G_,MT,Tu]at h;obtain⟨⟨⟨⟨⟨L,Y⟩,o⟩,i⟩,z⟩,D⟩:=h;refine⟨⟨λq=>?_,by rw[aQ];exact o,by rw[aQ];exact i,D⟩,λq=>?_⟩;rotate_left
 ·have O:(Vg:Str)=S [100,101,101,112]:=by decide +kernel
  have I:(Vh:Str)=S [98,97,114,101]:=by decide +kernel
  rw[O,I]at q;simp only[Mo,Mu,l_]at q;rcases q with e|e
  ·exact absurd (Rs e) (by simpa using L)
  ·exact absurd (Rs e) (by simpa using Y)
 have:t∈SQ:=MQ.mpr ⟨S t,q,gM t⟩;rw[MV.mpr this]at z;cases z
variable{si VF fi m:Nat}
def AW(h:m<=10):iu si VF fi m=(iu si VF fi 10).take m:=by
 unfold iu;rw[<-List.map_take,List.take_range,NL h]
def AX(o:si<8)(i:VF<3)(O:fi<5)(L:m<=10):((iu si VF fi m).map S).Nodup/\(∀z∈(iu si VF fi m).map S,de z)/\((iu si VF fi m).map S).length=m:=by
 have h:=MT.mp (MT.mp (MT.mp DL si<|Nn.mpr o) VF<|Nn.mpr i) fi (Nn.mpr O);obtain⟨I,D⟩:=Bool.and_eq_true_iff.mp h;rw[AW L];refine⟨?_,λz G=>?_,?_⟩
 ·rw[List.map_take];refine List.Nodup.sublist (Ts _ _) ?_;unfold List.Nodup;rw[List.pairwise_map];exact(AV I).imp λq e=>q (Rs e)
 ·obtain⟨t,Y,rfl⟩:=MQ.mp G;exact DM (MT.mp D t<|M6 Y)
 ·rw[Me,Mp];unfold iu;simp;lia
def nU(l:List (Vy)):dR l=am (l.map S):=by unfold dR am;rw[M8];rfl
inductive nV(vs:VA)(H:Hp)(Q:VK)(o:XK):Prop
 |mk(p:Vr)(m:Nat):vs=[.ref p,.int m]->Qg H p->m<=10->(∀(l:Vr)e(t:Vx),t.length=m->t.Nodup->(∀z∈t,de z)->Qg e p->Ql p H e->H l=none->e l=some (.lst<|am t)->Q (.ref l) e)->nV vs H Q o
def DN(h:si<8):([("":Str),"set",Vf,UW,UJ,"b",U4,Uz].map V.str)[si]?=some (.str<|S<|Qn.getD si []):=by
 have e:([("":Str),"set",Vf,UW,UJ,"b",U4,Uz]:Vx)=Qn.map S:=by decide +kernel
 rw[e,M8,Mt];have q:si<Qn.length:=h;rw[Mi q];simp[q]
def AY(si:Nat):(Qn.getD si []).length<=4:=by
 by_cases h:si<8
 ·revert si;decide +kernel
 ·have:Qn.getD si []=[]:=by
   rw[MI,List.getElem?_eq_none<|by show 8<=si;lia];rfl
  rw[this];simp
section
def Qv:ax [Ue,Uw,"_law_stem",UK,"_law_first",UA,UR,"_law_tail"] [Ue,Uw] (aj u9):=cP zk
def yJ{f:Vr}{N:Vw}(F:Qj K "_law_names" "_law_names" u9 f N)(B:Bl C)(F':Fn P w K C t "_law_take" 1 [Ue,Uw] dE):P7 P w K C t ce 2 f N [Ue,Uw] nV:=by
 have ZZ:=Qv
 walk_at "o"
 ·obtain⟨p,m,rfl,R,hm,q⟩:=h;have sz:(100000:Nat)<=sizeLine:=by decide
  refine⟨_,ae (bP 2 Qv.nd<|eZ (aM<|be ah<|be ah<|be ah<|HK ah ah ah ah ah)<|ap F' hr U<|bj (pv 0) af)
   (ae (bP 3 Qv.nd<|ap F' hr U<|bj (pv 0) af)
   (ae (bP 4 Qv.nd<|ap F' hr U<|bj (pv 0) af)
   (ae (bP 5 Qv.nd<|aM bN)
   (ae (cU h_ U (fm U B.range<|aV<|pv 1) (eQ 6 Qv.nd)
    (ae (bP 7 Qv.nd<|az aH (fw kF ah<|az ft (az bM (pv 4)<|az gC af<|pv 6) af)<|az DJ ah<|az pV (pv 6) af)
    (ai (aP (bY aR (pv 3) af) (ai<|aL<|cx Mw My Mx bu (pv 5)<|aV<|az aH (pv 2)<|pv 7)
     (ai (aP (bY aR (pv 3) af) (ai<|aL<|cx Mw My Mx bu (pv 5)<|aV<|az aH (pv 7)<|pv 2)
      (ai<|aL<|cx Mw My Mx bu (pv 5)<|aV<|az aH (cI qe (pv 2) fP<|cz<|az ft (pv 6)<|az bM (aC bX (by rfl) B.len MG<|aV<|pv 2) af)<|pv 7)))))))
   (ai<|ao<|pv 5))))),?_⟩
  refine⟨Qa,λl8 n8=>?_⟩;have M:=ag (o:=.lst ([("":Str),"set",Vf,UW,UJ,"b",U4,Uz].map V.str)) n8;have ed:=R.same M;have e8:(aB H l8<|.lst<|[("":Str),"set",Vf,UW,UJ,"b",U4,Uz].map V.str) l8=some (.lst<|[("":Str),"set",Vf,UW,UJ,"b",U4,Uz].map V.str):=aa;refine⟨_,U,p,8,U,ed,zd,zd,λsi X ee g2 d=>?_⟩;have ey:=R.ne n8;refine⟨l8,_,_,_,U,U,P8.of<|d _ _ e8 ey.symm,aI<|DN ee,?_⟩;have YL:Ql p H X:=(cH M).trans d;refine⟨_,U,p,3,U,g2,zd,zd,λVF H3 ea g3 b3=>?_⟩;refine⟨_,U,p,5,U,g3,zd,zd,λfi H4 er g4 b4=>?_⟩;have G:Ql p H H4:=YL.trans (b3.trans b4);clear YL d b3 b4 g2 g3;refine⟨Qa,λO L=>?_⟩;have s5:=ag (o:=.lst []) L;have e5:(aB H4 O<|.lst []) O=some (.lst []):=aa;have g5:=g4.same s5;have en:p≠O:=g4.ne L;have nH:H O=none:=by
   cases h:H O with
   |none=>rfl
   |some o=>
    have:=G _ _ h en.symm;rw[L]at this;cases this
  have eh:Ql p H (aB H4 O<|.lst []):=G.same s5;generalize aB H4 O (.lst ([]:VA))=H5 at*;refine⟨_,U,_,U,zo,zo,?_⟩;rw[show((m:Int)).toNat=m from Nm m];have sl:=AY si;refine gm (lo:=0) (n:=m) (λi v r=>∃v6 v7:Option V,v=[some<|.ref p,some<|.int m,some<|.str<|S<|Qn.getD si [],some<|.int VF,some<|.int fi,some<|.ref O,v6,v7]/\Qg r p/\Ql p H r/\r O=some (.lst<|dR<|iu si VF fi i)) ⟨_,_,U,g5,eh,e5⟩ ?_ ?_
  ·intro k v Y hk z;obtain⟨v6,v7,rfl,g6,b6,e6⟩:=z;have eg:k<m:=hk;have e0:((0:Int)+(k:Int))=(k:Int):=by lia
   rw[e0];have Z:((fi:Int)+2*(k:Int))%5=(((fi+2*k)%5:Nat):Int):=by lia
   have J:(k:Int) / 5=((k / 5:Nat):Int):=by lia
   have el:(fi+2*k)%5<5:=S6 _ zd;have eb:∀j<5,("qvjyz":Str).cps.toList[j]?=some (([113,118,106,121,122]:Vy).getD j 0):=by decide +kernel
   have es:(nS fi k).length<=3:=by
    unfold nS;rw[Md,Nu];simp;lia
   refine⟨_,U,_,U,_,_,U,U,.inl ⟨zd,zd⟩,_,_,U,U,_,_,U,U,(by show(0:Int)<5;decide),"qvjyz",_,_,U,U,zk,by show oH _ (((fi:Int)+2*(k:Int))%5)=_;rw[Z];exact aI (eb _ el),_,U,_,_,U,U,⟨by show(0:Int)<5;decide,by show(5:Int)<1073741824;decide⟩,97,k / 5,e_ V.str zk,e_ V.int J,zo,_,_,U,U,?_,?_⟩
   ·show 1+(S _).length<=_;rw[aQ,Nu];lia
   have et:((⟨#[([113,118,106,121,122]:Vy).getD ((fi+2*k)%5) 0]⟩:Str)++S (List.replicate (k / 5) 97))=S (nS fi k):=cE [_] _;rw[et];have B':∀nm,nm=Je (Qn.getD si []) VF fi k->∃v6 v7:Option V,[some<|V.ref p,some<|.int m,some<|.str<|S<|Qn.getD si [],some<|.int VF,some<|.int fi,some<|.ref O,some<|.int k,some<|.str<|S<|nS fi k]=[some<|.ref p,some<|.int m,some<|.str<|S<|Qn.getD si [],some<|.int VF,some<|.int fi,some<|.ref O,v6,v7]/\Qg (aB Y O<|.lst<|dR (iu si VF fi k)++[.str<|S nm]) p/\Ql p H (aB Y O<|.lst<|dR (iu si VF fi k)++[.str<|S nm])/\(aB Y O<|.lst<|dR (iu si VF fi k)++[.str<|S nm]) O=some (.lst<|dR<|iu si VF fi<|k+1):=by
    rintro nm rfl;refine⟨_,_,U,?_,?_,?_⟩
    ·obtain⟨x,y,z,e⟩:=g6;exact⟨x,y,z,by rw[al en];exact e⟩
    ·intro b o e nb;rw[al<|au e nH];exact b6 _ _ e nb
    ·rw[aa];unfold iu dR;rw[TR,Mq,Mq];rfl
   have D:(dR<|iu si VF fi k).length<sizeLine:=by
    unfold dR iu;rw[Me,Me,SV];lia
   refine⟨_,U,U,_,U,bE (λh=>?_) λh=>?_⟩
   ·have h':(VF:Int)=0:=V.int.inj (i_ h);have ec:VF=0:=by lia
    refine⟨_,U,.inl ⟨U,_,P8.of e6⟩,_,U,_,U,_,_,U,U,by rw[aQ,aQ];lia,O,_,_,U,U,e6,D,?_⟩;rw[cE];exact B' _ (by unfold Je;rw[g_ ec])
   have ei:VF≠0:=λe=>h (b_<|by rw[e];rfl);refine⟨_,U,U,_,U,bE (λh=>?_) λh=>?_⟩
   ·have h':(VF:Int)=1:=V.int.inj (i_ h);have ew:VF=1:=by lia
    refine⟨_,U,.inl ⟨U,_,P8.of e6⟩,_,U,_,U,_,_,U,U,by rw[aQ,aQ];lia,O,_,_,U,U,e6,D,?_⟩;rw[cE];exact B' _ (by unfold Je;rw[f_ ei,g_ ew])
   have ev:VF≠1:=λe=>h (b_<|by rw[e];rfl);refine⟨_,U,.inl ⟨U,_,P8.of e6⟩,_,U,_,U,_,U,_,U,by rw[aQ];lia,_,_,U,U,_,_,U,U,?_,_,U,_,U,zo,?_⟩
   ·rw[aQ];show(0:Int)<((Qn.getD si []).length:Int)+1;lia
   have I:iV (Qn.getD si []) none (some<|(k:Int)%(((S<|Qn.getD si []).length:Int)+1))=(Qn.getD si []).take (k%((Qn.getD si []).length+1)):=by
    rw[aQ];have e1:(k:Int)%(((Qn.getD si []).length:Int)+1)=((k%((Qn.getD si []).length+1):Nat):Int):=by
     rw[Int.natCast_emod];rfl
    have Oh:k%((Qn.getD si []).length+1)<(Qn.getD si []).length+1:=S6 _ zo;unfold iV;rw[e1,HT.sIx_none,HT.sIx_nat,NL zo,Ub,Nat.sub_zero]
   refine⟨_,U,_,_,U,U,?_,O,_,_,U,U,e6,D,?_⟩
   ·have:(iV (Qn.getD si []) none<|some<|(k:Int)%(((S<|Qn.getD si []).length:Int)+1)).length<=4:=by
     rw[I,Mp];lia
    rw[aQ,aQ];exact MP (Nat.add_le_add this es) zo
   ·rw[cE];exact B' _ (by unfold Je;rw[f_ ei,f_ ev];exact e_ (·++_) I)
  ·intro v Y z;obtain⟨v6,v7,rfl,g6,b6,e6⟩:=z;obtain⟨h1,h2,h3⟩:=AX (m:=m) ee ea er hm;rw[nU]at e6;exact⟨_,U,q O Y _ h3 h1 h2 g6 b6 nH e6⟩
end
end L3
namespace L2
open PySem PySem.Spec PyProof.Rows
def jV{K:ZF}{l:Vr}{xs:VA}{g:TG}{L:TT}{r:TE}{ix:List (Option Nat)}{o:St}{H:Hp}{Q:VK}(Pv:Nat->VA->Hp->Prop)(Z:Pv 0 [] H)
  (j:∀i t H,i<=xs.length->Pv i t H->P8 K H l xs/\t.length<=sizeLine)
  (N:∀i x t H T,xs[i]?=some x->H T=none->Pv i t H->g (.ref T) (kr ix o) (aB H T<|.tup [.int i,x]) λz Y=>QM (kr ix o) z/\L z Y λb O=>if b=true then r z O λy G=>Nx Pv xs.length i (t++[y]) G else Nx Pv xs.length i t O)
  (d:∀t H,Pv xs.length t H->∀D,H D=none->Q (.ref D) (aB H D<|.lst t)):ym (KM K l) g L r ix o H Q:=by
 refine⟨λi m t H=>m=xs.length-i/\i<=xs.length/\Pv i t H,⟨xs.length,by simp,MR _,Z⟩,?_⟩;rintro i m t H ⟨rfl,f,p⟩;obtain⟨q,I⟩:=j i t H f p;by_cases J:i<xs.length
 ·refine .inr ⟨⟨xs,xs[i],q,by simp[J]⟩,I,λv C y=>?_⟩;obtain⟨T,x,e1,hT,e2,R⟩:=y;subst e1 e2;exact N i x t H T (R xs q) hT p
 ·have e:i=xs.length:=by lia
  subst e;exact .inl ⟨⟨xs,q,Ml _⟩,I,d t H p⟩
end L2
namespace L3
open PySem L2
section
variable{y:V}{R:List (di×V)}
def iw{k:di}:bA (bh R k y) k=some y:=by rw[sI,g_ rfl]
def bO{k j:di}(h:j≠k):bA (bh R k y) j=bA R j:=by rw[sI,f_ h]
def bD(e:H a=some (.dK R))(h:bA R (Sum.inr z)=some v):QE H a (.str z) (some v):=by
 have:=QE.k (k:=Sum.inr z) e;rw[h]at this;exact this
def GL(b:Ql p H t)(g:Qg t p)(n:t l=none):H l=none:=by
 have q:=g.ne n;cases e:H l with
 |none=>rfl
 |some o=>
  have:=b _ _ e q.symm;rw[n]at this;cases this
def GM(e:VA)(n:Nat):i8 e (some (n:Int)) none=e.drop n:=by
 unfold i8;rw[HT.sIx_nat,HT.sIx_none];by_cases h:n<=e.length
 ·rw[NL h];exact Nd (by rw[MY];lia)
 ·rw[Nat.min_eq_right zo,List.drop_of_length_le<|Ml _,List.drop_of_length_le zo];simp
def vX(e:VA)(n:Nat):i8 e none (some (n:Int))=e.take n:=by
 unfold i8;rw[HT.sIx_nat,HT.sIx_none,Ub,Nat.sub_zero];by_cases h:n<=e.length
 ·rw[NL h]
 ·rw[Nat.min_eq_right zo,Nd<|Ml _,Nd zo]
def GN(e:VA)(n m:Nat)(h:n+m<=e.length):i8 e (some (n:Int)) (some ((n+m:Nat):Int))=(e.drop n).take m:=by
 unfold i8;rw[HT.sIx_nat,HT.sIx_nat,NL h,NL (by lia:n<=e.length),Nat.add_sub_cancel_left]
def kS(z:Str):di:=Sum.inr z
inductive Sk(H:Hp)(d:Vr)(W:Nat)(X:Vx)(M:Vx):Prop
 |mk(R t e:_):H d=some (.dK R)->bA R (kS Uj)=some (.int W)->bA R (kS Ul)=some (.ref t)->bA R (kS Up)=some (.ref e)->H t=some (.lst<|am X)->H e=some (.lst<|am M)->Sk H d W X M
inductive RK(H:Hp)(l:Vr)(e:Vz):Prop
 |mk(t:_):H l=some (.lst t)->Paired (Qp H) t e->RK H l e
variable{H:Hp}
def bJ{p l:Vr}{o:HO}(g:Qg H p)(e:H l=some o)(h:∀x y z,o≠qv x y z):l≠p:=by
 rintro rfl;obtain⟨x,y,z,q⟩:=g;rw[e]at q;exact h x y z (MN q)
def cM(t:Vx)(x y z:Int):HO.lst (am t)≠qv x y z:=by
 intro e;have:=HO.lst.inj e;cases t with
 |nil=>cases this
 |cons a r=>cases this
def jW{t:VA}{o:Vz}(h:Paired (Qp H) t o)(x y z:Int):HO.lst t≠qv x y z:=by
 intro e;have:=HO.lst.inj e;cases h with
 |nil=>cases this
 |cons a r=>
  obtain⟨p,rfl,_⟩:=a;cases this
variable{p:Vr}
def bK{H q:Hp}(g:Qg H p)(b:Ql p H q):Qi H q:=λa t e=>b _ _ e (bJ g e λ_ _ _ h=>by cases h)
variable{X M:Vx}{W:Nat}{d:Vr}
def Sk.but{H q:Hp}(h:Sk H d W X M)(g:Qg H p)(b:Ql p H q):Sk q d W X M:=
 let⟨R,J,G,z,D,L,Y,O,I⟩:=h
 ⟨R,J,G,b _ _ z (bJ g z λ_ _ _ h=>by cases h),D,L,Y,b _ _ O<|bJ g O<|cM _,b _ _ I<|bJ g I<|cM _⟩
def Qp.kt2{H q:Hp}(k:Qi H q){u:V}{x:Str×Str}(h:Qp H u x):Qp q u x:=let⟨p,a,c⟩:=h;⟨p,a,k _ _ c⟩
def RK.but{H q:Hp}{p l:Vr}{e:Vz}(h:RK H l e)(g:Qg H p)(b:Ql p H q):RK q l e:=
 let⟨t,z,O⟩:=h
 ⟨t,b _ _ z<|bJ g z<|jW O,bq (λ_ _ h=>Qp.kt2 (bK g b) h) O⟩
def Sk.same{H q:Hp}(h:Sk H d W X M)(s:P4 H q):Sk q d W X M:=
 let⟨R,J,G,z,O,I,D,L,Y⟩:=h
 ⟨R,J,G,s _ _ z,O,I,D,s _ _ L,s _ _ Y⟩
def RK.same{H q:Hp}{l:Vr}{e:Vz}(h:RK H l e)(s:P4 H q):RK q l e:=
 let⟨t,z,O⟩:=h
 ⟨t,s _ _ z,bq (λ_ _ h=>Qp.kt2 (ak s) h) O⟩
def cV(st:Str)(e:Vz)(i:Nat):Vy:=(List.range i).filter λj=>decide ((e.getD j ("","")).2=st)
def fc(l:Vy):VA:=l.map λ(n:Nat)=>V.int (n:Int)
def yK(l:Vy):fc l=(l.map λ(n:Nat)=>(n:Int)).map V.int:=by unfold fc;rw[M8];rfl
def eV(l:Vy):(fc l).length=l.length:=by unfold fc;rw[Me]
variable{i:Nat}
def mr{l:Vy}(h:i<l.length):(fc l)[i]?=some (.int (l[i]:Nat)):=by unfold fc;rw[Mt,Mi h];rfl
variable{st:Str}
def dN{t:Vz}{z:Str×Str}(h:t[i]?=some z):cV st t (i+1)=cV st t i++(if z.2=st then [i]else []):=by
 unfold cV;rw[TR,Nr];have e:t.getD i ("","")=z:=by rw[MI,h];rfl
 congr 1
 by_cases q:z.2=st
 ·rw[g_ q];show [i].filter _=_;rw[Nv]
  ·rfl
  ·rw[e];exact b_ q
 ·rw[f_ q,NP]
  ·rfl
  ·rw[e];simpa using q
def fW(st:Str)(e:Vz)(i:Nat):(cV st e i).length<=i:=by
 have:=List.length_filter_le (λj=>decide ((e.getD j ("","")).2=st)) (List.range i);rw[SV]at this;exact this
def jX{t:Vz}{j:Nat}(h:j∈cV st t t.length):∃z,t[j]?=some (z,st):=by
 obtain⟨r,o⟩:=NB.mp h;have O:=Nn.mp r;have e:t.getD j ("","")=t[j]:=by rw[MI,Mi O];rfl
 rw[e]at o;have q:=i_ o;refine⟨t[j].1,?_⟩;rw[Mi O,<-q]
variable{Q:V->Hp->Prop}{a b:Vr}{K:ZF}
def mv{l:Vy}(z:H a=some (.lst<|fc l))(O:H b=some (.lst []))(q:Q (.bl<|!decide (l=[])) H):Sx K (.ref a) (.ref b) H Q:=by
 rw[yK]at z;refine⟨_,_,Sv<|P8.of z,.lst (P8.of O) .nil,Q6 _,U,MP (L_ _ _) (by simp[PyData.depth,PyData.depthAll]),?_⟩;have e:PyData.eqv (Ss<|l.map λ(n:Nat)=>(n:Int)) (.list [])=decide (l=[]):=by
  unfold Ss;cases l with
  |nil=>simp[PyData.eqv,PyData.eqvAll]
  |cons x r=>simp[PyData.eqv,PyData.eqvAll]
 rw[e];exact q
def nW:∀(q:Vx),Qx K H (am q) (q.map PyData.str)
 |[]=>.nil
 |n::r=>.cons (.str n) (nW r)
def tV{z:Str}(h:Qh z):Db z=true:=by
 unfold Db;simp only[PyData.canLay0];unfold PyData.strOk;rw[Array.all_eq_true'];intro c q;have:=h.2.2.2 c (by simpa using q);exact b_ zo
def tX:∀{q:Vx},(∀z∈q,Db z=true)->PyData.canLayAll0 (q.map PyData.str)=true
 |[],_=>rfl
 |n::r,h=>by
  show((PyData.str n).canLay0&&PyData.canLayAll0 (r.map PyData.str))=true;rw[tX λz O=>h z<|Mn _ O];have:(PyData.str n).canLay0=true:=h n Mf;rw[this];rfl
def mw{l:Vx}(D:∀z∈l,Qh z)(O:H a=some (.lst<|am l))(I:H b=some (.lst []))(q:Q (.bl<|!decide (l=[])) H):Sx K (.ref a) (.ref b) H Q:=by
 refine⟨.list<|l.map PyData.str,_,.lst (P8.of O)<|nW l,.lst (P8.of I) .nil,tX λz L=>tV<|D z L,U,by simp[PyData.depth,PyData.depthAll],?_⟩;have e:PyData.eqv (.list<|l.map PyData.str) (.list [])=decide (l=[]):=by
  cases l with
  |nil=>simp[PyData.eqv,PyData.eqvAll]
  |cons x r=>simp[PyData.eqv,PyData.eqvAll]
 rw[e];exact q
def cg(L:Vx)(st:Str)(e:Vz)(b:Bool)(n:Nat):Prop:=if b=true then ∃z,e[n]?=some (z,st)else n<L.length
def gy(X M:Vx)(st:Str):Vx:=if st=Uh then X else M
inductive jq(vs:VA)(H:Hp)(Q:VK)(r:XK):Prop
 |mk(p st d o W X M t:_):vs=[.ref p,.str st,.ref d,.ref o]->Qg H p->Sk H d W X M->RK H o t->t.length<=3->(st=Uh\/st=Uk)->1<=(gy X M st).length->(gy X M st).length<=10->(∀v e b n,Qg e p->Ql p H e->R1 e b n v->cg (gy X M st) st t b n->Q v e)->jq vs H Q r
def jr(h:Sk H d W X M)(z:st=Uh\/st=Uk):∃l,QE H d (.str<|st++"s") (some<|.ref l)/\H l=some (.lst<|am<|gy X M st):=by
 obtain⟨R,G,Y,q,J,O,I,D,L⟩:=h;rcases z with rfl|rfl
 ·refine⟨G,?_,?_⟩
  ·have:((Uh:Str)++("s":Str))=Ul:=by decide +kernel
   rw[this];exact bD q O
  ·unfold gy;rw[g_ rfl];exact D
 ·refine⟨Y,?_,?_⟩
  ·have:((Uk:Str)++("s":Str))=Up:=by decide +kernel
   rw[this];exact bD q I
  ·unfold gy;rw[f_ zk];exact L
variable{P:Vt}{w:Vu}{K:ZF}{mg:Str->Option Vq}{base:Heap}{C fi aS aE aF aO:Vr}{t1 t2 t3 t4 t5 tM:Tok}
def Sn:ax [Ue,Uy,Ug,Uf,"_law_by"] [Ue,Uy,Ug,Uf] (aj wX):=cP zk
def K3:([Vm,Ux,"_law_its",Uy]:Vx).Nodup:=by decide +kernel
inductive AZ(p:Vr)(st:Str)(d:Vr)(o:Vr)(H:Hp)(e:Vz)(r:St)(t:Hp):Prop
 |mk(lb:_):r=[some<|.ref p,some<|.str st,some<|.ref d,some<|.ref o,some<|.ref lb]->Qg t p->Ql p H t->t lb=some (.lst<|fc<|cV st e e.length)->p≠lb->cV st e e.length≠[]->AZ p st d o H e r t
inductive A1(p:Vr)(st:Str)(d:Vr)(t:Vr)(H:Hp)(o:St)(e:Hp):Prop
 |mk(lb:_):o=[some<|.ref p,some<|.str st,some<|.ref d,some<|.ref t,some<|.ref lb]->Qg e p->Ql p H e->A1 p st d t H o e
def DP{f:Vr}{fd:Vw}(F:Qj K "_law_sel" "_law_sel" wX f fd)(B:Bl mg)(B3:Ff mg)(F':Fn P w K mg base "_law_take" 1 [Ue,Uw] dE):P7 P w K mg base ce 2 f fd [Ue,Uy,Ug,Uf] jq:=by
 have ZZ:=Sn
 walk_at "o"
 ·obtain⟨p,st,d,lf,W,X,M,m,rfl,hp,hT,hF,h3,P',h1,ea,q⟩:=h;have hu:=eE hr;have sz:(100000:Nat)<=sizeLine:=by decide
  refine⟨_,ae (gv (i:=4) Sn.nd U U (N':=[Vm,Ux,"_law_its",Uy]) (ix:=[none,none,none,some 1]) (sc0:=aj wX) (N:=[Ue,Uy,Ug,Uf,"_law_by"]) U zk (jI U B3.enumerate<|aV<|pv 3)
     (λC' cl s H fp=>ej (K:=K) (n:=2) U U<|aq (gZ (i:=0) K3)<|aq (ej (K:=K) (n:=2) U U<|aq (gZ (i:=1) K3)<|aq (gZ (i:=2) K3) bi) bi) (λ_ _ _ _ _=>ie<|bY aR (pv 2)<|pv 3) (λC' cl s H fp=>pv 0))
   (ae (aP (c6 (AZ p st d lf H m) (A1 p st d lf H)<|PW.pt<|bW (bY (QA hr) (pv 4)<|aM bN)<|bG<|bY aR (ap F' hr U<|bj (pv 0) af) af)
     (ai<|ao<|aw<|bj ah<|eZ (pv 4)<|ap F' hr U<|bj (pv 0)<|aC aT (by rfl) B.len MG<|aV<|pv 4) ay)
   (ai<|ao<|aw<|bj ah<|ap F' hr U<|bj (pv 0)<|aC aT (by rfl) B.len MG<|aV<|bv hu (pv 2)<|az aH (pv 1) ah)),?_⟩
  obtain⟨us,Xa,Od⟩:=id hF;have lu:=Od.length;refine⟨_,U,lf,U,⟨_,P8.of Xa⟩,?_⟩;refine jV (K:=K) (l:=lf) (xs:=us) (λi ys H'=>P4 H H'/\ys=fc (cV st m i)) ⟨P4.refl _,U⟩ (λi ys H' hi⟨s',e'⟩=>⟨P8.of<|s' _ _ Xa,by rw[e',eV];have:=fW st m i;lia⟩) ?_ ?_
  ·rintro i x ys H1 T1 hx nT ⟨s1,rfl⟩;obtain⟨z,v,pf,rfl,Wa⟩:=fh Od hx;have s2:=ag (o:=.tup [.int (i:Int),.ref pf]) nT;have Og:=s1.trans s2;have Oh:=(Mc.mp hx).1;refine⟨T1,_,U,P5.of aa,U,_,_,U,_,_,U,⟨pf,_,U,P5.of<|Og _ _ Wa,U,_,_,U,_,_,U,U,U,⟨U,trivial⟩,?_⟩⟩;refine⟨_,U,_,U,U,_,U,bE (λh=>?_) λh=>?_⟩
   ·have h':z.2=st:=V.str.inj (i_ h);refine⟨_,U,Nx.mk Oh ⟨Og,?_⟩⟩;rw[dN v,g_ h'];unfold fc;rw[Mq];rfl
   ·have h':¬z.2=st:=λe=>h (b_<|by rw[e]);refine Nx.mk Oh ⟨Og,?_⟩;rw[dN v,f_ h',MM]
  ·rintro ys H1 ⟨s1,rfl⟩ O WD;rw[lu];have Zm:=fW st m m.length;generalize L:aB H1 O _=H2;have s2:=(nw WD L).1;have e2:H2 O=some (.lst<|fc<|cV st m m.length):=(nw WD L).2;clear L;have M':p≠O:=(hp.same s1).ne WD;have W8:=s1.trans s2;refine⟨?_,?_,?_⟩
   ·intro H4 z;obtain⟨XF,e,D,I,e4,et,Oe⟩:=z;have L':0<(cV st m m.length).length:=Ng.mpr Oe;cases e;refine⟨_,U,_,U,_,U,O,_,U,.inl<|P8.of e4,?_⟩;rw[eV];refine⟨p,(cV st m m.length).length,U,D,L',zo,λj H5 hj g5 Z=>?_⟩;obtain⟨z,v⟩:=jX (MX hj);refine⟨O,_,_,_,U,U,P8.of<|Z _ _ e4 et.symm,aI<|mr hj,Qa,λt nt=>?_⟩;have J:=ag (o:=.tup [.str "by",.int ((cV st m m.length)[j]:Nat)]) nt;refine q _ _ true (cV st m m.length)[j] (g5.same J) ((I.trans Z).same J) ⟨t,U,aa⟩ ?_;unfold cg;rw[g_ rfl];exact⟨z,v⟩
   ·intro H4 z;obtain⟨XF,e,D,I⟩:=z;cases e;have ee:=hT.but hp I;obtain⟨l,dg,el⟩:=jr ee P';have W3:st.length+("s":Str).length<=sizeLine:=by
     rcases P' with rfl|rfl<;>decide +kernel
    refine⟨_,U,_,U,_,U,_,_,U,U,W3,d,_,U,dg,l,_,U,.inl<|P8.of el,?_⟩;rw[dc];refine⟨p,(gy X M st).length,U,D,zo,zo,λj H5 hj g5 Z=>?_⟩;refine⟨Qa,λt nt=>?_⟩;have J:=ag (o:=.tup [.str "is",.int (j:Nat)]) nt;refine q _ _ false j (g5.same J) ((I.trans Z).same J) ⟨t,U,aa⟩ ?_;unfold cg;rw[f_ zd];exact hj
   ·refine⟨_,U,Qa,λle WC=>?_⟩;generalize L:aB H2 le _=H3;have s3:=(nw WC L).1;have e3:=(nw WC L).2;clear L;have Zc:=W8.trans s3;have G:=hp.same Zc;refine mv (s3 _ _ e2) e3 ⟨_,U,?_⟩;refine bE (λh=>?_) (λh=>?_)
    ·have Oe:cV st m m.length≠[]:=by
      intro e;rw[e]at h;simp at h
     refine⟨_,U,p,2,U,G,zd,zd,λr H4 N9 D I=>?_⟩;have Y:Ql p H H4:=(cH Zc).trans I;refine⟨U,_,U,bE (λh=>?_) λh=>?_⟩
     ·exact⟨O,U,D,Y,I _ _ (s3 _ _ e2) M'.symm,M',Oe⟩
     ·exact⟨O,U,D,Y⟩
    ·exact cD ⟨O,U,G,cH Zc⟩
end
def aJ(W:Nat)(r i:Vx)(t:Vz):Nat->Ed->Prop
 |_,.num n=>n<2^W
 |_,.fld j=>∃z:Str,t[j]?=some (z,("number":Str))
 |_,.pl b n=>cg r Uh t b n
 |_,.mk b n=>cg i Uk t b n
 |0,.cell _=>False
 |m+1,.cell e=>aJ W r i t m e
 |0,.two _ _ _=>False
 |m+1,.two o x y=>o∈dG/\aJ W r i t m x/\aJ W r i t m y
structure Lx(H:Hp)(p d lf:Vr)(W:Nat)(ps ms:Vx)(fs:Vz):Prop where
 g:Qg H p
 t:Sk H d W ps ms
 f:RK H lf fs
 f3:fs.length<=3
 w4:4<=W
 w24:W<=24
 p1:1<=ps.length
 p10:ps.length<=10
 m10:ms.length<=10
 mn:∀z∈ms,de z
 pn:∀z∈ps,de z
def Lx.but(h:Lx H p d i W m r o)(g:Qg e p)(b:Ql p H e):Lx e p d i W m r o:=⟨g,h.t.but h.g b,h.f.but h.g b,h.f3,h.w4,h.w24,h.p1,h.p10,h.m10,h.mn,h.pn⟩
def ci:gy e t Uh=e:=g_ rfl
def dI:gy t e Uk=e:=f_ zk
inductive JA(p:Vr)(d:Vr)(o:Vr)(t:Vz)(H:Hp)(i:St)(e:Hp):Prop
 |mk(lb:_)(r:Nat):i=[some<|.ref p,some<|.ref d,some<|.ref o,some<|.ref lb,some<|.int r]->Qg e p->Ql p H e->p≠lb->e lb=some (.lst<|fc<|cV "number" t t.length)->JA p d o t H i e
def gS(h:aJ W i o t 0 e):∀m,aJ W i o t m e:=by
 intro m;cases e<;>cases m<;>first|exact h|(simp[aJ]at h⊢;done)|(simp[aJ]at h⊢;exact h)
inductive mx(vs:VA)(H:Hp)(Q:VK)(j:XK):Prop
 |mk(p d i W f r o:_):vs=[.ref p,.ref d,.ref i]->Lx H p d i W f r o->(∀v t e,Qg t p->Ql p H t->QJ t e v->(∀m,aJ W f r o m e)->Q v t)->mx vs H Q j
def vY(w:Nat):(1*2^((w:Int)).toNat:Int)=((2^w:Nat):Int):=by
 rw[Nm,Int.one_mul,Int.natCast_pow];rfl
section
def RA:ax [Ue,Ug,Uf,Va,UK] [Ue,Ug,Uf] (aj qm):=cP zk
def qT:([Vm,Ux,Uy]:Vx).Nodup:=by decide +kernel
def A2(F:Qj K "_law_atom" "_law_atom" qm f fd)(B:Bl mg)(B3:Ff mg)(F':Fn P w K mg C "_law_take" 1 [Ue,Uw] dE)(SL:Fn P w K mg C "_law_sel" 2 [Ue,Uy,Ug,Uf] jq):P7 P w K mg C ce 3 f fd [Ue,Ug,Uf] mx:=by
 have ZZ:=RA
 walk_at "o"
 ·obtain⟨p,d,J,W,ps,ms,R,rfl,hL,q⟩:=h;have hu:=eE hr;have sz:(100000:Nat)<=sizeLine:=by decide
  have h3:=hL.f3;refine⟨_,ae (gv (i:=3) RA.nd U U (N':=[Vm,Ux,Uy]) (ix:=[none,none,none]) (sc0:=aj qm) (N:=[Ue,Ug,Uf,Va,UK]) U zk (jI U B3.enumerate<|aV<|pv 2)
     (λC' cl s H fp=>ej (K:=K) (n:=2) U U<|aq (gZ (i:=0) qT)<|aq (ej (K:=K) (n:=2) U U<|aq (gZ (i:=1) qT)<|aq (gZ (i:=2) qT) bi) bi) (λ_ _ _ _ _=>ie<|bY aR (pv 2) ah) (λC' cl s H fp=>pv 0))
   (bH (JA p d J R H) (bP 4 RA.nd<|ap F' hr.m U<|bj (pv 0) af)
   (ae (aP (c6 (λσ M=>JA p d J R H σ M/\cV "number" R R.length≠[]) (JA p d J R H)<|PW.pt<|bW (bY aR (pv 4) af)<|bG<|bY (QA hr) (pv 3)<|aM bN)
     (ai<|ao<|aw<|bj ah<|eZ (pv 3)<|ap F' hr.m U<|bj (pv 0)<|aC aT (by rfl) B.len MG<|aV<|pv 3) ay)
   (ae (aP (c6 (λσ M=>JA p d J R H σ M/\ms≠[]) (JA p d J R H)<|PW.pt<|bW (bY aR (pv 4) af)<|bG<|bY (QA hr) (bv hu (pv 1) ah)<|aM bN)
     (ai<|ao<|aw<|bj ah<|ap SL hr U<|jF (pv 0) ah (pv 1)<|pv 2) ay)
   (ae (aP (bY aR (pv 4) af) (ai<|ao<|aw<|bj ah<|ap F' hr.m U<|bj (pv 0) af) ay)
   (ae (aP (bY aR (pv 4) af) (ai<|ao<|aw<|bj ah<|ap F' hr.m U<|bj (pv 0)<|az pW af<|bv hu (pv 1) ah) ay)
   (ai<|ao<|aw<|bj ah<|ap SL hr U<|jF (pv 0) ah (pv 1)<|pv 2)))))),?_⟩
  obtain⟨us,Xa,Od⟩:=id hL.f;have lu:=Od.length;refine⟨_,U,J,U,⟨_,P8.of Xa⟩,?_⟩;refine jV (K:=K) (l:=J) (xs:=us) (λi ys M=>P4 H M/\ys=fc (cV "number" R i)) ⟨P4.refl _,U⟩ (λi ys M hi⟨s',e'⟩=>⟨P8.of<|s' _ _ Xa,by rw[e',eV];have:=fW "number" R i;lia⟩) ?_ ?_
  ·rintro i x ys H1 T1 hx nT ⟨s1,rfl⟩;obtain⟨z,X,pf,rfl,Wa⟩:=fh Od hx;have s2:=ag (o:=.tup [.int (i:Int),.ref pf]) nT;have Og:=s1.trans s2;have Oh:=(Mc.mp hx).1;refine⟨T1,_,U,P5.of aa,U,_,_,U,_,_,U,⟨pf,_,U,P5.of<|Og _ _ Wa,U,_,_,U,_,_,U,U,U,trivial,?_⟩⟩;refine⟨_,U,U,_,U,bE (λh=>?_) λh=>?_⟩
   ·have h':z.2="number":=V.str.inj (i_ h);refine⟨_,U,Nx.mk Oh ⟨Og,?_⟩⟩;rw[dN X,g_ h'];unfold fc;rw[Mq];rfl
   ·have h':¬z.2="number":=λe=>h (b_<|by rw[e]);refine Nx.mk Oh ⟨Og,?_⟩;rw[dN X,f_ h',MM]
  ·rintro ys H1 ⟨s1,rfl⟩ D WD;rw[lu];have Zm:=fW "number" R R.length;generalize zz:aB H1 D _=H2;have s2:=(nw WD zz).1;have e2:H2 D=some (.lst<|fc<|cV "number" R R.length):=(nw WD zz).2;clear zz;have Y:p≠D:=(hL.g.same s1).ne WD;have W8:=s1.trans s2;refine⟨?_,?_⟩
   ·intro σ H4 z;obtain⟨D,r,rfl,g4,b4,Y,e4⟩:=z;refine⟨?_,?_,?_⟩
    ·rintro H5 ⟨⟨XF,r',e,g5,b5,Wd,e5⟩,Oe⟩;cases e;have L':0<(cV "number" R R.length).length:=Ng.mpr Oe;refine⟨_,U,_,U,_,U,D,_,U,.inl<|P8.of e5,?_⟩;rw[eV];refine⟨p,(cV "number" R R.length).length,U,g5,L',zo,λj H6 hj g6 G=>?_⟩;obtain⟨z,X⟩:=jX (MX hj);refine⟨D,_,_,_,U,U,P8.of<|G _ _ e5 Y.symm,aI<|mr hj,Qa,λt Z=>?_⟩;have s7:=ag (o:=.tup [.str U7,.int ((cV "number" R R.length)[j]:Nat)]) Z;exact q _ _ (.fld (cV "number" R R.length)[j]) (g6.same s7) ((b5.trans G).same s7) ⟨t,U,aa⟩ (gS<|by simp only[aJ];exact⟨z,X⟩)
    ·intro H5 z;obtain⟨XF,r',e,g5,b5,Wd,e5⟩:=z;cases e;refine⟨?_,?_,?_⟩
     ·rintro H6 ⟨⟨XF,r',e,g6,G,Wd,e6⟩,Oe⟩;cases e;have O:=hL.but g6 G;have YE:1<=ms.length:=Ng.mpr Oe;refine⟨_,U,_,U,_,U,p,Uk,d,J,W,ps,ms,R,U,O.g,O.t,O.f,O.f3,.inr U,by rw[dI];exact YE,by rw[dI];exact O.m10,λv H7 b n g7 b7 hv hs=>⟨Qa,λt Z=>?_⟩⟩;rw[dI]at hs;have L:=ag (o:=.tup [.str Uk,v]) Z;exact q _ _ (.mk b n) (g7.same L) ((G.trans b7).same L) ⟨t,v,U,aa,hv.kt<|ak L⟩ (gS<|by simp only[aJ];exact hs)
     ·intro H6 z;obtain⟨XF,r',e,g6,G,Wd,e6⟩:=z;cases e;have O:=hL.but g6 G;refine⟨_,U,U,_,U,bE (λh=>?_) λh=>?_⟩
      ·refine⟨_,U,p,4,U,g6,zd,zd,λj H7 hj g7 b7=>⟨Qa,λt Z=>?_⟩⟩;have L:=ag (o:=.tup [.str "number",.int (j:Nat)]) Z;have ee:2^4<=2^W:=MH zd O.w4;exact q _ _ (.num j) (g7.same L) ((G.trans b7).same L) ⟨t,U,aa⟩ (gS<|by simp only[aJ];lia)
      refine⟨_,U,U,_,U,bE (λh=>?_) λh=>?_⟩
      ·obtain⟨kvs,lp,lm,a1,a2,a3,a4,a5,a6⟩:=O.t;have hw:=O.w24;have et:2^W<=2^24:=MH zd hw;have L':0<2^W:=NT zd;refine⟨_,U,_,U,d,_,U,bD a1 a2,_,_,U,U,⟨zo,zo,by show(1:Int).natAbs<_;decide⟩,p,2^W,e_ (λx=>[V.ref p,V.int x])<|vY W,g6,L',zo,λj H7 hj g7 b7=>⟨Qa,λt Z=>?_⟩⟩;have L:=ag (o:=.tup [.str "number",.int (j:Nat)]) Z;exact q _ _ (.num j) (g7.same L) ((G.trans b7).same L) ⟨t,U,aa⟩ (gS<|by simp only[aJ];exact hj)
      refine⟨_,U,_,U,_,U,p,Uh,d,J,W,ps,ms,R,U,O.g,O.t,O.f,O.f3,.inl U,by rw[ci];exact O.p1,by rw[ci];exact O.p10,λv H7 b n g7 b7 hv hs=>⟨Qa,λt Z=>?_⟩⟩;rw[ci]at hs;have L:=ag (o:=.tup [.str Uh,v]) Z;exact q _ _ (.pl b n) (g7.same L) ((G.trans b7).same L) ⟨t,v,U,aa,hv.kt<|ak L⟩ (gS<|by simp only[aJ];exact hs)
     ·have L5:=hL.but g5 b5;refine⟨_,U,U,_,U,bE (λh=>?_) λh=>cD ⟨D,r,U,g5,b5,Y,e5⟩⟩;obtain⟨kvs,lp,lm,a1,a2,a3,a4,a5,a6⟩:=L5.t;refine⟨_,U,d,_,U,bD a1 a4,Qa,λle WC=>?_⟩;generalize zz:aB H5 le _=H6;have I:=(nw WC zz).1;have e6:=(nw WC zz).2;clear zz;refine mw (λz X=>(L5.mn z X).1) (I _ _ a6) e6 ⟨_,U,bE (λh=>⟨⟨D,r,U,g5.same I,b5.same I,Y,I _ _ e5⟩,?_⟩) λh=>⟨D,r,U,g5.same I,b5.same I,Y,I _ _ e5⟩⟩;intro e;rw[e]at h;simp at h
    ·refine⟨_,U,U,_,U,bE (λh=>?_) λh=>cD ⟨D,r,U,g4,b4,Y,e4⟩⟩;refine⟨_,U,Qa,λle WC=>?_⟩;generalize zz:aB H4 le _=H6;have I:=(nw WC zz).1;have e6:=(nw WC zz).2;clear zz;refine mv (I _ _ e4) e6 ⟨_,U,bE (λh=>⟨⟨D,r,U,g4.same I,b4.same I,Y,I _ _ e4⟩,?_⟩) λh=>⟨D,r,U,g4.same I,b4.same I,Y,I _ _ e4⟩⟩;intro e;rw[e]at h;simp at h
   ·refine⟨_,U,p,6,U,hL.g.same W8,zd,zd,λr H4 N9 g4 b4=>?_⟩;exact⟨D,r,U,g4,(cH W8).trans b4,Y,b4 _ _ e2 Y.symm⟩
end
def rW:Ed->PyData
 |.num n=>.tuple [.str "number",.int (n:Nat)]
 |.fld j=>.tuple [.str U7,.int (j:Nat)]
 |.pl b n=>.tuple [.str Uh,.tuple [.str<|nJ b,.int (n:Nat)]]
 |.mk b n=>.tuple [.str Uk,.tuple [.str<|nJ b,.int (n:Nat)]]
 |.cell e=>.tuple [.str "cell",rW e]
 |.two o x y=>.tuple [.str o,rW x,rW y]
def DQ(b:Bool):Db (nJ b)=true:=by cases b<;>decide +kernel
def DR(h:o∈dG):Db o=true:=by
 have:∀z∈dG,Db z=true:=by decide +kernel
 exact this o h
def R1.td(h:R1 H b n v):Td H v (.tuple [.str<|nJ b,.int (n:Nat)]):=by
 obtain⟨q,rfl,e⟩:=h;exact .tup e (.cons (.str _<|DQ b)<|.cons (.int _) .nil)
def QJ.td:∀{m:Nat}{e:Ed}{v:V},QJ H e v->aJ W ps ms fs m e->Td H v (rW e)
 |_,.num _,_,⟨p,rfl,e⟩,_=>.tup e (.cons (.str _ zk)<|.cons (.int _) .nil)
 |_,.fld _,_,⟨p,rfl,e⟩,_=>.tup e (.cons (.str _ zk)<|.cons (.int _) .nil)
 |_,.pl _ _,_,⟨p,u,rfl,e,h⟩,_=>.tup e (.cons (.str _ zk)<|.cons h.td .nil)
 |_,.mk _ _,_,⟨p,u,rfl,e,h⟩,_=>.tup e (.cons (.str _ zk)<|.cons h.td .nil)
 |0,.cell _,_,_,h=>absurd h (by simp[aJ])
 |m+1,.cell e,_,⟨p,u,rfl,a,b⟩,h=>.tup a (.cons (.str _ zk)<|.cons (QJ.td (m:=m) (e:=e) b<|by simpa[aJ]using h) .nil)
 |0,.two _ _ _,_,_,h=>absurd h (by simp[aJ])
 |m+1,.two o x y,_,⟨p,u,t,rfl,a,b,c⟩,h=>by
  have i:o∈dG/\aJ W ps ms fs m x/\aJ W ps ms fs m y:=by simpa[aJ]using h
  exact .tup a (.cons (.str _<|DR i.1)<|.cons (QJ.td (m:=m) b i.2.1)<|.cons (QJ.td (m:=m) c i.2.2) .nil)
def nX:∀{m:Nat}{e:Ed},aJ W d r t m e->(rW e).depth<=m+5
 |_,.num _,_=>by simp[rW,PyData.depth,PyData.depthAll]
 |_,.fld _,_=>by simp[rW,PyData.depth,PyData.depthAll]
 |_,.pl _ _,_=>by simp[rW,PyData.depth,PyData.depthAll]
 |_,.mk _ _,_=>by simp[rW,PyData.depth,PyData.depthAll]
 |0,.cell _,h=>absurd h (by simp[aJ])
 |m+1,.cell e,h=>by
  have:=nX (m:=m) (e:=e) (by simpa[aJ]using h);simp only[rW,PyData.depth,PyData.depthAll];lia
 |0,.two _ _ _,h=>absurd h (by simp[aJ])
 |m+1,.two o x y,h=>by
  have i:o∈dG/\aJ W d r t m x/\aJ W d r t m y:=by simpa[aJ]using h
  have:=nX (m:=m) i.2.1;have:=nX (m:=m) i.2.2;simp only[rW,PyData.depth,PyData.depthAll];lia
def my:∀{m:Nat}{e:Ed},aJ W d r t m e->aJ W d r t (m+1) e
 |0,.num _,h=>gS h _
 |_+1,.num _,h=>by simpa[aJ]using h
 |0,.fld _,h=>gS h _
 |_+1,.fld _,h=>by simpa[aJ]using h
 |0,.pl _ _,h=>gS h _
 |_+1,.pl _ _,h=>by simpa[aJ]using h
 |0,.mk _ _,h=>gS h _
 |_+1,.mk _ _,h=>by simpa[aJ]using h
 |0,.cell _,h=>absurd h (by simp[aJ])
 |m+1,.cell e,h=>by
  have:=my (m:=m) (e:=e) (by simpa[aJ]using h);simpa[aJ]using this
 |0,.two _ _ _,h=>absurd h (by simp[aJ])
 |m+1,.two o x y,h=>by
  have i:o∈dG/\aJ W d r t m x/\aJ W d r t m y:=by simpa[aJ]using h
  have f:=my (m:=m) i.2.1;have p:=my (m:=m) i.2.2;simp only[aJ];exact⟨i.1,f,p⟩
def lC:Ed->Bool
 |.num _=>true
 |.fld _=>true
 |.pl _ _=>true
 |_=>false
def tY:Ed->Bool
 |.mk _ _=>true
 |e=>lC e
def xp:Ed->Bool
 |.num _=>true
 |_=>false
def eW:Ed->Bool
 |.two o x y=>if o="+"\/o="-" then eW x&&eW y else if o="<<" then eW x&&xp y else false
 |.cell a=>lC a
 |e=>tY e
def Fj(h:aJ W i o t 0 e):tY e=true:=by
 cases e<;>first|rfl|(simp[aJ]at h)
def GO(h:tY e=true):eW e=true:=by
 cases e<;>first|rfl|cases h
inductive mz(vs:VA)(H:Hp)(Q:VK)(j:XK):Prop
 |mk(p d i W f r o:_):vs=[.ref p,.ref d,.ref i]->Lx H p d i W f r o->(∀v t e,Qg t p->Ql p H t->QJ t e v->(∀m,aJ W f r o m e)->lC e=true->Q v t)->mz vs H Q j
inductive xq(m:Nat)(vs:VA)(H:Hp)(Q:VK):Prop
 |mk(p d i W f r o:_)(k:Nat):vs=[.ref p,.ref d,.ref i,.int k]->Lx H p d i W f r o->1<=k->k<=m+1->(∀v t e,Qg t p->Ql p H t->QJ t e v->aJ W f r o (k-1) e->eW e=true->Q v t)->xq m vs H Q
def qU :Nat->Sp
 |0=>li
 |m+1=>λvs H Q _=>xq m vs H Q
section
def Rv:ax [Ue,Ug,Uf,Va,UK] [Ue,Ug,Uf] (aj qu):=cP zk
def A3(F:Qj K "_law_address" "_law_address" qu f fd)(B:Bl mg)(B3:Ff mg)(F':Fn P w K mg C "_law_take" 1 [Ue,Uw] dE)(SL:Fn P w K mg C "_law_sel" 2 [Ue,Uy,Ug,Uf] jq):P7 P w K mg C ce 3 f fd [Ue,Ug,Uf] mz:=by
 have ZZ:=Rv
 walk_at "o"
 ·obtain⟨p,d,J,W,ps,ms,R,rfl,hL,q⟩:=h;have hu:=eE hr;have sz:(100000:Nat)<=sizeLine:=by decide
  have h3:=hL.f3;refine⟨_,ae (gv (i:=3) Rv.nd U U (N':=[Vm,Ux,Uy]) (ix:=[none,none,none]) (sc0:=aj qu) (N:=[Ue,Ug,Uf,Va,UK]) U zk (jI U B3.enumerate<|aV<|pv 2)
     (λC' cl s H fp=>ej (K:=K) (n:=2) U U<|aq (gZ (i:=0) qT)<|aq (ej (K:=K) (n:=2) U U<|aq (gZ (i:=1) qT)<|aq (gZ (i:=2) qT) bi) bi) (λ_ _ _ _ _=>ie<|bY aR (pv 2) ah) (λC' cl s H fp=>pv 0))
   (bH (JA p d J R H) (bP 4 Rv.nd<|ap F' hr.m U<|bj (pv 0) af)
   (ae (aP (c6 (λσ M=>JA p d J R H σ M/\cV "number" R R.length≠[]) (JA p d J R H)<|PW.pt<|bW (bY aR (pv 4) af)<|bG<|bY (QA hr) (pv 3)<|aM bN)
     (ai<|ao<|aw<|bj ah<|eZ (pv 3)<|ap F' hr.m U<|bj (pv 0)<|aC aT (by rfl) B.len MG<|aV<|pv 3) ay)
   (ae (aP (bY aR (pv 4) af) (ai<|ao<|aw<|bj ah<|ap F' hr.m U<|bj (pv 0)<|az pW af<|bv hu (pv 1) ah) ay)
   (ai<|ao<|aw<|bj ah<|ap SL hr U<|jF (pv 0) ah (pv 1)<|pv 2)))),?_⟩
  obtain⟨us,Xa,Od⟩:=id hL.f;have lu:=Od.length;refine⟨_,U,J,U,⟨_,P8.of Xa⟩,?_⟩;refine jV (K:=K) (l:=J) (xs:=us) (λi ys M=>P4 H M/\ys=fc (cV "number" R i)) ⟨P4.refl _,U⟩ (λi ys M hi⟨s',e'⟩=>⟨P8.of<|s' _ _ Xa,by rw[e',eV];have:=fW "number" R i;lia⟩) ?_ ?_
  ·rintro i x ys H1 T1 hx nT ⟨s1,rfl⟩;obtain⟨z,X,pf,rfl,Wa⟩:=fh Od hx;have s2:=ag (o:=.tup [.int (i:Int),.ref pf]) nT;have Og:=s1.trans s2;have Oh:=(Mc.mp hx).1;refine⟨T1,_,U,P5.of aa,U,_,_,U,_,_,U,⟨pf,_,U,P5.of<|Og _ _ Wa,U,_,_,U,_,_,U,U,U,trivial,?_⟩⟩;refine⟨_,U,U,_,U,bE (λh=>?_) λh=>?_⟩
   ·have h':z.2="number":=V.str.inj (i_ h);refine⟨_,U,Nx.mk Oh ⟨Og,?_⟩⟩;rw[dN X,g_ h'];unfold fc;rw[Mq];rfl
   ·have h':¬z.2="number":=λe=>h (b_<|by rw[e]);refine Nx.mk Oh ⟨Og,?_⟩;rw[dN X,f_ h',MM]
  ·rintro ys H1 ⟨s1,rfl⟩ O WD;rw[lu];have Zm:=fW "number" R R.length;generalize zz:aB H1 O _=H2;have s2:=(nw WD zz).1;have e2:H2 O=some (.lst<|fc<|cV "number" R R.length):=(nw WD zz).2;clear zz;have D:p≠O:=(hL.g.same s1).ne WD;have W8:=s1.trans s2;refine⟨?_,?_⟩
   ·intro σ H4 z;obtain⟨O,r,rfl,g4,Y,D,e4⟩:=z;refine⟨?_,?_,?_⟩
    ·rintro H5 ⟨⟨XF,r',e,g5,b5,Wd,e5⟩,Oe⟩;cases e;have L':0<(cV "number" R R.length).length:=Ng.mpr Oe;refine⟨_,U,_,U,_,U,O,_,U,.inl<|P8.of e5,?_⟩;rw[eV];refine⟨p,(cV "number" R R.length).length,U,g5,L',by lia,λj H6 hj g6 G=>?_⟩;obtain⟨z,X⟩:=jX (MX hj);refine⟨O,_,_,_,U,U,P8.of<|G _ _ e5 D.symm,aI<|mr hj,Qa,λt nt=>?_⟩;have s7:=ag (o:=.tup [.str U7,.int ((cV "number" R R.length)[j]:Nat)]) nt;exact q _ _ (.fld (cV "number" R R.length)[j]) (g6.same s7) ((b5.trans G).same s7) ⟨t,U,aa⟩ (gS<|by simp only[aJ];exact⟨z,X⟩) rfl
    ·intro H5 z;obtain⟨XF,r',e,g5,b5,Wd,e5⟩:=z;cases e;have g6:=g5;have G:=b5;have I:=hL.but g6 G;refine⟨_,U,U,_,U,bE (λh=>?_) λh=>?_⟩
     ·obtain⟨kvs,lp,lm,a1,a2,a3,a4,a5,a6⟩:=I.t;have hw:=I.w24;have ee:2^W<=2^24:=MH zd hw;have L':0<2^W:=NT zd;refine⟨_,U,_,U,d,_,U,bD a1 a2,_,_,U,U,⟨by lia,by lia,by show(1:Int).natAbs<_;decide⟩,p,2^W,e_ (λx=>[V.ref p,V.int x])<|vY W,g6,L',by lia,λj H7 hj g7 b7=>⟨Qa,λt nt=>?_⟩⟩;have Z:=ag (o:=.tup [.str "number",.int (j:Nat)]) nt;exact q _ _ (.num j) (g7.same Z) ((G.trans b7).same Z) ⟨t,U,aa⟩ (gS<|by simp only[aJ];exact hj) rfl
     refine⟨_,U,_,U,_,U,p,Uh,d,J,W,ps,ms,R,U,I.g,I.t,I.f,I.f3,.inl U,by rw[ci];exact I.p1,by rw[ci];exact I.p10,λv H7 b n g7 b7 hv hs=>⟨Qa,λt nt=>?_⟩⟩;rw[ci]at hs;have Z:=ag (o:=.tup [.str Uh,v]) nt;exact q _ _ (.pl b n) (g7.same Z) ((G.trans b7).same Z) ⟨t,v,U,aa,hv.kt<|ak Z⟩ (gS<|by simp only[aJ];exact hs) rfl
    ·refine⟨_,U,U,_,U,bE (λh=>?_) λh=>cD ⟨O,r,U,g4,Y,D,e4⟩⟩;refine⟨_,U,Qa,λle WC=>?_⟩;generalize zz:aB H4 le _=H6;have L:=(nw WC zz).1;have e6:=(nw WC zz).2;clear zz;refine mv (L _ _ e4) e6 ⟨_,U,bE (λh=>⟨⟨O,r,U,g4.same L,Y.same L,D,L _ _ e4⟩,?_⟩) λh=>⟨O,r,U,g4.same L,Y.same L,D,L _ _ e4⟩⟩;intro e;rw[e]at h;simp at h
   ·refine⟨_,U,p,3,U,hL.g.same W8,zd,zd,λr H4 N9 g4 Y=>?_⟩;exact⟨O,r,U,g4,(cH W8).trans Y,D,Y _ _ e2 D.symm⟩
def RO:ax [Ue,Ug,Uf,U8,UK,U5] [Ue,Ug,Uf,U8] (aj z7):=cP zk
def qV(F:Qj K "_law_sum" "_law_sum" z7 f fd)(F':Fn P w K B i "_law_take" 1 [Ue,Uw] dE)(AT:Fn P w K B i "_law_atom" 3 [Ue,Ug,Uf] mx)(AD:Fn P w K B i "_law_address" 3 [Ue,Ug,Uf] mz)(SU:Fn P w K B i "_law_sum" n [Ue,Ug,Uf,U8] (qU m))(hn:3<=n):P7 P w K B i ce (n+1) f fd [Ue,Ug,Uf,U8] (qU<|m+1):=by
 have ZZ:=RO
 walk_at "o"
 ·obtain⟨p,d,D,W,C,R,N,k,rfl,hL,ey,Zl,q⟩:=h;have hu:=eE hr;have N8:P9 1 _:=hr.mono (by lia);have V':P9 3 _:=hr.mono (by lia);refine⟨_,(ae (bP 4 RO.nd<|ap F' N8 U<|bj (pv 0) af)<|ae (aP (c6 (λσ G=>(∃r:Nat,σ=[some<|.ref p,some<|.ref d,some<|.ref D,some<|.int k,some<|.int r,none])/\Qg G p/\Ql p H G) (λσ G=>(∃r:Nat,σ=[some<|.ref p,some<|.ref d,some<|.ref D,some<|.int k,some<|.int r,none])/\Qg G p/\Ql p H G/\2<=k)<|PW.pt<|fL (bY eR (pv 3) af)<|dU<|bY eR (pv 4) af) (ai<|ao<|ap AT V' U<|du (pv 0) (pv 1)<|pv 2) ay)<|ae (aP (bY aR (pv 4) af) (ai<|ao<|aw<|bj ah<|ap AD V' U<|du (pv 0) (pv 1)<|pv 2) ay)<|ae (bP 5 RO.nd<|ap SU hr U<|jF (pv 0) (pv 1) (pv 2)<|az kD (pv 3) af)<|ae (aP (bY aR (pv 4) af) (ai<|ao<|aw<|du ah (pv 5)<|aw<|bj ah<|ap F' N8 U<|bj (pv 0)<|az pW af<|bv hu (pv 1) ah) ay)<|ai<|ao<|aw<|du (eZ (aM<|bj ah ah)<|az ft (pv 4) af) (pv 5)<|ap SU hr U<|jF (pv 0) (pv 1) (pv 2)<|az kD (pv 3) af),_,U,p,7,U,hL.g,zd,zd,λr H1 N9 g1 X=>?_⟩;refine⟨?_,?_,?_⟩
  ·rintro H2 ⟨⟨r',e⟩,g2,Y⟩;exact⟨_,U,_,U,_,U,p,d,D,W,C,R,N,U,hL.but g2 Y,λv H3 e g3 b3 hv M=>q v H3 e g3 (Y.trans b3) hv (M _)<|GO<|Fj<|M 0⟩
  ·intro H2 z;obtain⟨⟨r',e⟩,g2,Y,et⟩:=z;cases e;have L2:=hL.but g2 Y;obtain⟨z,rfl⟩:∃z,k=z+2:=⟨k-2,by lia⟩;have ek:((z+2:Nat):Int)-1=((z+1:Nat):Int):=by lia
   cases m with
   |zero=>lia
   |succ m=>
    refine⟨_,U,U,_,U,bE (λh=>?_) λh=>?_⟩
    ·refine⟨_,U,_,U,_,U,p,d,D,W,C,R,N,U,L2,λv H3 e g3 b3 hv M ha=>⟨Qa,λt nt=>?_⟩⟩;have s4:=ag (o:=.tup [.str "cell",v]) nt;exact q _ _ (.cell e) (g3.same s4) ((Y.trans b3).same s4) ⟨t,v,U,aa,hv.kt<|ak s4⟩ (by show aJ W C R N (z+1) (.cell e);simp only[aJ];exact M _) ha
    refine⟨_,U,_,U,_,U,_,U,_,_,U,U,p,d,D,W,C,R,N,z+1,e_ (λx=>[V.ref p,V.ref d,V.ref D,V.int x]) ek,L2,by lia,by lia,λv5 H5 e5 g5 b5 YR ee en=>?_⟩;have L:=Y.trans b5;have L5:=hL.but g5 L;refine⟨_,U,U,_,U,bE (λh=>?_) λh=>?_⟩
    ·obtain⟨kvs,lp,lm,a1,a2,a3,a4,a5,a6⟩:=L5.t;have hw:=L5.w24;have ew:2^W<=2^24:=MH zd hw;have L':0<2^W:=NT zd;refine⟨_,U,_,U,_,U,d,_,U,bD a1 a2,_,_,U,U,⟨by lia,by lia,by show(1:Int).natAbs<_;decide⟩,p,2^W,e_ (λx=>[V.ref p,V.int x])<|vY W,g5,L',by lia,λj H7 hj g7 Z=>⟨Qa,λt nt=>?_⟩⟩;have I:=ag (o:=.tup [.str "number",.int (j:Nat)]) nt;have e8:(aB H7 t<|.tup [.str "number",.int (j:Nat)]) t=_:=aa;generalize aB H7 t (.tup [.str "number",.int (j:Nat)])=H8 at I e8⊢;refine⟨Qa,λt2 ec=>?_⟩;have s9:=ag (o:=.tup [.str "<<",v5,.ref t]) ec;have el:=(bK g5 Z);refine q _ _ (.two "<<" e5<|.num j) ((g7.same I).same s9) (((L.trans Z).same I).same s9) ⟨t2,v5,_,U,aa,((YR.kt el).kt<|ak I).kt<|ak s9,⟨t,U,s9 _ _ e8⟩⟩ ?_ ?_
     ·show aJ W C R N (z+1) (.two _ e5<|.num j);simp only[aJ];exact⟨zk,ee,hj⟩
     ·show(if("<<":Str)="+"\/("<<":Str)="-" then _ else if("<<":Str)="<<" then _ else _)=true;rw[f_ zk,g_ U,en];rfl
    refine⟨Qa,λlo no=>?_⟩;generalize zz:aB H5 lo _=H6;have s6:=(nw no zz).1;have e6:=(nw no zz).2;clear zz;obtain⟨O,es,ea⟩:∃O:Str,oH ([.str "+",.str "-"]:VA) ((r:Int)%2)=some (.str O)/\(O="+"\/O="-"):=by
     have e:(r:Int)%2=((r%2:Nat):Int):=by lia
     rw[e];have h3:r%2<2:=S6 _ zd
     match r%2,h3 with
     |0,_=>exact⟨"+",aI (j:=0) U,.inl U⟩
     |1,_=>exact⟨"-",aI (j:=1) U,.inr U⟩
    have ei:O∈dG:=by rcases ea with rfl|rfl<;>decide +kernel
    refine⟨_,U,_,_,U,U,(by show(0:Int)<2;decide),lo,_,_,_,U,U,P8.of e6,es,?_⟩;have J:=L.same s6;have L6:=hL.but (g5.same s6) J;refine⟨_,U,_,U,_,U,_,U,_,U,_,_,U,U,p,d,D,W,C,R,N,z+1,e_ (λx=>[V.ref p,V.ref d,V.ref D,V.int x]) ek,L6,by lia,by lia,λv7 H7 e7 g7 Z er Z1 eh=>⟨Qa,λt nt=>?_⟩⟩;have I:=ag (o:=.tup [.str O,v5,v7]) nt;have ed:Qi H5 H7:=bK g5 ((cH s6).trans Z);refine q _ _ (.two O e5 e7) (g7.same I) ((J.trans Z).same I) ⟨t,v5,v7,U,aa,(YR.kt ed).kt<|ak I,er.kt<|ak I⟩ ?_ ?_
    ·show aJ W C R N (z+1) (.two _ e5 e7);simp only[aJ];exact⟨ei,ee,Z1⟩
    ·show(if O="+"\/O="-" then eW e5&&eW e7 else _)=true;rw[g_ ea,en,eh];rfl
  ·refine⟨_,U,_,_,U,U,_,U,bE (λh=>?_) λh=>?_⟩
   ·exact kG ⟨⟨_,U⟩,g1,X⟩
   ·have et:2<=k:=by
     have:¬((k:Int)<2):=λe=>h (b_ e);lia
    refine⟨_,U,_,_,U,U,_,U,bE (λh=>?_) λh=>?_⟩
    ·exact⟨⟨_,U⟩,g1,X⟩
    ·exact⟨⟨_,U⟩,g1,X,et⟩
end
def Sd.isCell:Sd->Bool
 |.cell _ _=>true
 |_=>false
def gf(W:Nat)(i o:Vx)(t:Vz)(m:Nat):Sd->Prop
 |.cell a e=>aJ W i o t (m-1) a/\aJ W i o t m e
 |.pl b n e=>cg i Uh t b n/\aJ W i o t m e
 |.mk b n e=>cg o Uk t b n/\aJ W i o t m e
def LD:Sd->PyData
 |.cell a e=>.tuple [.str "cell",rW a,rW e]
 |.pl b n e=>.tuple [.str Uh,.tuple [.str<|nJ b,.int (n:Nat)],rW e]
 |.mk b n e=>.tuple [.str Uk,.tuple [.str<|nJ b,.int (n:Nat)],rW e]
def LG:Sd->Str
 |.cell _ _=>"cell"
 |.pl _ _ _=>Uh
 |.mk _ _ _=>Uk
def A4(g:Sd):decide (V.str (LG g)=V.str "cell")=g.isCell:=by
 cases g with
 |cell a e=>exact b_ rfl
 |pl b n e=>exact c_ λe=>absurd (V.str.inj e) (by show(Uh:Str)≠"cell";decide +kernel)
 |mk b n e=>exact c_ λe=>absurd (V.str.inj e) (by show(Uk:Str)≠"cell";decide +kernel)
def Qq.at(h:Qq H g v):∃p r,v=.ref p/\H p=some (.tup (.str (LG g)::r)):=by
 cases g with
 |cell a e=>obtain⟨p,u,t,a,b,_⟩:=h;exact⟨p,_,a,b⟩
 |pl b n e=>obtain⟨p,u,t,a,b,_⟩:=h;exact⟨p,_,a,b⟩
 |mk b n e=>obtain⟨p,u,t,a,b,_⟩:=h;exact⟨p,_,a,b⟩
def Qq.td(h:Qq H g v)(q:gf W ps ms fs m g):Td H v (LD g):=by
 cases g with
 |cell a e=>obtain⟨p,u,t,rfl,b,c,d⟩:=h;exact .tup b (.cons (.str _ zk)<|.cons (c.td q.1)<|.cons (d.td q.2) .nil)
 |pl b n e=>obtain⟨p,u,t,rfl,b,c,d⟩:=h;exact .tup b (.cons (.str _ zk)<|.cons c.td<|.cons (d.td q.2) .nil)
 |mk b n e=>obtain⟨p,u,t,rfl,b,c,d⟩:=h;exact .tup b (.cons (.str _ zk)<|.cons c.td<|.cons (d.td q.2) .nil)
def A5:∀{e:VA}{s:List Sd},Paired (λv g=>Qq H g v) e s->(∀g∈s,gf W ps ms fs m g)->Qw H e (s.map LD)
 |_,_,.nil,_=>.nil
 |_,_,.cons h t,q=>.cons (Qq.td h<|q _ Mf) (A5 t λg z=>q g<|Mn _ z)
def A6:∀{o:VA}{e:List PyData},Qw H o e->o.length=e.length
 |_,_,.nil=>rfl
 |_,_,.cons _ t=>by rw[Mg,Mg,A6 t]
def DS(O:H a=some (.lst o))(z:Qw H o t)(I:H b=some (.lst []))(q:Q (.bl<|decide (o.length=0)) H):SD K (.ref a) (.ref b) H Q:=by
 have D:=A6 z;refine⟨.list t,_,.lst (P8.of O) z.dt,.lst (P8.of I) .nil,z.lay,U,MP (L_ _ _) (by simp[PyData.depth,PyData.depthAll]),?_⟩;have e:PyData.eqv (.list t) (.list [])=decide (o.length=0):=by
  rw[D];cases t with
  |nil=>simp[PyData.eqv,PyData.eqvAll]
  |cons x r=>simp[PyData.eqv,PyData.eqvAll]
 rw[e];exact q
def lR:Sd->Bool
 |.cell a e=>eW e&&lC a
 |.pl _ _ e=>eW e
 |.mk _ _ e=>tY e
inductive qW(vs:VA)(H:Hp)(Q:VK)(j:XK):Prop
 |mk(p d i W m r o:_):vs=[.ref p,.ref d,.ref i]->Lx H p d i W m r o->(∀t f(s:List Sd)e,Qg e p->Ql p H e->e t=some (.tup f)->Paired (λv g=>Qq e g v) f s->s.length<=4->(s.filter Sd.isCell).length<=1->(∀g∈s,gf W m r o 2 g)->s.all lR=true->Q (.ref t) e)->qW vs H Q j
def DU(h:r<8):(fc [0,1,1,2,2,3,4,1])[r]?=some (.int ((([0,1,1,2,2,3,4,1]:Vy).getD r 0:Nat):Int))/\([0,1,1,2,2,3,4,1]:Vy).getD r 0<=4:=by
 have:∀r<8,([0,1,1,2,2,3,4,1]:Vy).getD r 0<=4:=by decide
 refine⟨?_,this r h⟩;unfold fc;rw[Mt,MI,Mi h];rfl
def yL(W:Nat)(o t:Vx)(e:Vz)(m:Nat)(g:Sd):Prop:=gf W o t e m g/\lR g=true
def Jf(W:Nat)(i o:Vx)(t:Vz)(m:Nat)(e:Ed):Prop:=aJ W i o t m e/\eW e=true
structure SI(H:Hp)(p ls:Vr)(W:Nat)(ps ms:Vx)(fs:Vz)(m i:Nat)(H':Hp):Prop where
 g:Qg H' p
 b:Ql p H H'
 x:∃us,∃s:List Sd,H' ls=some (.lst us)/\Paired (λv g=>Qq H' g v) us s/\s.length=i/\(s.filter Sd.isCell).length<=1/\∀g∈s,yL W ps ms fs m g
def SI.next{H q:Hp}{p O:Vr}{W:Nat}{f d:Vx}{r:Vz}{m i:Nat}(h:SI H p O W f d r m i q)(nl:H O=none)(pl:p≠O){t:VA}{s:List Sd}(e:q O=some (.lst t))(Z:Paired (λv g=>Qq q g v) t s)(G:s.length=i)(M:(s.filter Sd.isCell).length<=1)(J:∀g∈s,yL W f d r m g){v:V}{g:Sd}(N:Qq q g v)(Y:yL W f d r m g)(D:g.isCell=true->s.filter Sd.isCell=[]):SI H p O W f d r m (i+1) (aB q O<|.lst<|t++[v]):=by
 have k:Qi q (aB q O<|.lst<|t++[v]):=λb B I=>by
  rw[al]
  ·exact I
  ·rintro rfl;rw[e]at I;cases I
 refine⟨?_,?_,t++[v],s++[g],aa,fF (R:=λC g=>Qq (aB q O<|.lst<|t++[v]) g C) (N.kt k)<|bq (R:=λv g=>Qq q g v) (λ_ _ h=>Qq.kt k h) Z,by rw[Md,G];rfl,?_,?_⟩
 ·obtain⟨x,y,z,ex⟩:=h.g;exact⟨x,y,z,by rw[al pl];exact ex⟩
 ·intro b o I nb;rw[al<|au I nl];exact h.b _ _ I nb
 ·rw[Nr,Md];cases hgi:g.isCell with
  |true=>rw[D hgi];simp[hgi]
  |false=>simp[hgi];lia
 ·intro g' L;rcases MC.mp L with j|j
  ·exact J g' j
  ·rw[MJ.mp j];exact Y
def SI.but(h:SI H p ls W I O r m i t)(pl:p≠ls)(g:Qg o p)(b:Ql p t o):SI H p ls W I O r m i o:=by
 obtain⟨N,s,e,z,f,j,q⟩:=h.x;exact⟨g,h.b.trans b,N,s,b _ _ e pl.symm,bq (R:=λv g=>Qq t g v) (λ_ _ d=>Qq.kt (bK h.g b) d) z,f,j,q⟩
section
def QT:ax [Ue,Ug,Uf,"_law_sets",UR,UK,"_law_value"] [Ue,Ug,Uf] (aj qo):=cP zk
def Jg:([U5]:Vx).Nodup:=by decide +kernel
inductive JS(H:Hp)(p:Vr)(d:Vr)(q:Vr)(ls:Vr)(W:Nat)(j:Vx)(f:Vx)(o:Vz)(m:Nat)(i:Nat)(O:St)(t:Hp):Prop
 |mk(r:Nat)(v:V)(e:Ed):O=[some<|.ref p,some<|.ref d,some<|.ref q,some<|.ref ls,some<|.int (i:Nat),some<|.int r,some v]->SI H p ls W j f o m i t->QJ t e v->Jf W j f o m e->JS H p d q ls W j f o m i O t
inductive nY(H:Hp)(p:Vr)(d:Vr)(o:Vr)(W:Nat)(m:Vx)(r:Vx)(t:Vz)(f:St)(e:Hp):Prop
 |mk(ls i:_):JS H p d o ls W m r t 2 i f e->H ls=none->p≠ls->i<4->nY H p d o W m r t f e
inductive A7(H:Hp)(p:Vr)(d:Vr)(m:Vr)(W:Nat)(r:Vx)(o:Vx)(t:Vz)(j:St)(e:Hp):Prop
 |mk(ls i:_):JS H p d m ls W r o t 2 i j e->H ls=none->p≠ls->i<4->(∃f,∃s:List Sd,e ls=some (.lst f)/\Paired (λv g=>Qq e g v) f s/\s.length=i/\s.filter Sd.isCell=[]/\∀g∈s,yL W r o t 2 g)->A7 H p d m W r o t j e
def A8(F:Qj K "_law_plain_sets" "_law_plain_sets" qo f fd)(B:Bl mg)(F':Fn P w K mg C "_law_take" 1 [Ue,Uw] dE)(SL:Fn P w K mg C "_law_sel" 2 [Ue,Uy,Ug,Uf] jq)(AT:Fn P w K mg C "_law_atom" 3 [Ue,Ug,Uf] mx)(AD:Fn P w K mg C "_law_address" 3 [Ue,Ug,Uf] mz)(EX:Fn P w K mg C "_law_sum" n [Ue,Ug,Uf,U8] (qU 3))(hn:3<=n):P7 P w K mg C ce (n+1) f fd [Ue,Ug,Uf] qW:=by
 have ZZ:=QT
 walk_at "o"
 ·obtain⟨p,d,X,W,ps,ms,fs,rfl,hL,q⟩:=h;have V':P9 3 _:=hr.mono hn;have hu:=eE hr;have N8:P9 1 _:=hr.mono (by lia);have N9:P9 2 _:=hr.mono (by lia);have sz:(100000:Nat)<=sizeLine:=by decide
  refine⟨_,ae (bP 3 QT.nd<|aM bN)
   (ae (cU h_ U (fm U B.range<|aV<|eZ (aM<|be af<|be af<|be af<|HK af af af af af)<|ap F' N8 U<|bj (pv 0) af) (eQ 4 QT.nd)
    (ae (bP 5 QT.nd<|ap F' N8 U<|bj (pv 0) af)
    (ae (bP 6 QT.nd<|ap EX hr U<|jF (pv 0) (pv 1) (pv 2) af)
    (ai (aP (c6 (A7 H p d X W ps ms fs) (nY H p d X W ps ms fs)<|PW.pt<|bW (bY aR (pv 5) af)<|bG<|bY (So hr) (gu (N':=[U5]) (ix:=[none]) (sc0:=aj qo) (N:=[Ue,Ug,Uf,"_law_sets",UR,UK,"_law_value"]) U zk (cW<|pv 3)
      (λC' cl s H fp=>gZ (i:=0) Jg) (λ_ _ _ _ _=>ie<|bY aR (fw (jP (K:=K) U) (pv 0) af) ah) (λC' cl s H fp=>pv 0))<|aM bN)
     (ai<|aL<|cx Mw My Mx bu (pv 3)<|aV<|aw<|du ah (ap AD V' U<|du (pv 0) (pv 1)<|pv 2)<|pv 6)
     (ai (aP (c6 (λσ H'=>nY H p d X W ps ms fs σ H'/\ms≠[]) (nY H p d X W ps ms fs)<|PW.pt<|bW (bY aR (pv 5) af)<|bG<|bY (QA hr) (bv hu (pv 1) ah)<|aM bN)
      (ai<|aL<|cx Mw My Mx bu (pv 3)<|aV<|aw<|du ah (ap SL N9 U<|jF (pv 0) ah (pv 1)<|pv 2)<|ap AT V' U<|du (pv 0) (pv 1)<|pv 2)
      (ai<|aL<|cx Mw My Mx bu (pv 3)<|aV<|aw<|du ah (ap SL N9 U<|jF (pv 0) ah (pv 1)<|pv 2)<|pv 6))))))))
   (ai<|ao<|aU bQ (by rfl) B.tuple cu<|aV<|pv 3)),?_⟩
  refine put λD2 N=>?_;refine⟨Qa,λD nl=>?_⟩;generalize O:aB H D _=H0;have s0:=(nw nl O).1;have e0:=(nw nl O).2;clear O;have Y:p≠D:=hL.g.ne nl;refine N _ _ ?_;clear N D2;refine put λD2 N=>?_;refine⟨Qa,λl8 n8=>?_⟩;generalize O:aB H0 l8 _=H1;have s1:=(nw n8 O).1;have e1:H1 l8=some (.lst<|fc [0,1,1,2,2,3,4,1]):=(nw n8 O).2;clear O;have g0:=hL.g.same s0;have eS:p≠l8:=g0.ne n8;refine⟨_,U,p,8,U,g0.same s1,zd,zd,λmi H2 ez g2 b2=>?_⟩;obtain⟨ek,eH⟩:=DU ez;refine⟨l8,_,_,_,U,U,P8.of<|b2 _ _ e1 eS.symm,aI ek,?_⟩;generalize ([0,1,1,2,2,3,4,1]:Vy).getD mi 0=Yj at*;have YL:Ql p H H2:=((cH s0).same s1).trans b2;have I3:SI H p D W ps ms fs 2 0 H2:=⟨g2,YL,[],[],b2 _ _ (s1 _ _ e0) Y.symm,.nil,U,zd,λg hg=>by cases hg⟩;refine⟨_,U,by lia,by lia,?_⟩;rw[show((Yj:Int)).toNat=Yj from Nm Yj];refine gm (lo:=0) (n:=Yj) (λi σ H'=>∃v6 v7 v8:Option V,σ=[some<|.ref p,some<|.ref d,some<|.ref X,some<|.ref D,v6,v7,v8]/\SI H p D W ps ms fs 2 i H') ⟨_,_,_,U,I3⟩ ?_ ?_
  ·intro i σ H4 hi z;obtain⟨v6,v7,v8,rfl,I4⟩:=z;have YF:i<Yj:=hi;have e0:((0:Int)+(i:Int))=(i:Int):=by lia
   rw[e0];refine putL λD1 N1=>?_;refine put λD3 N3=>?_;refine⟨_,U,p,4,U,I4.g,zd,zd,λr H5 eL g5 b5=>?_⟩;have I5:=I4.but Y g5 b5;refine N3 _ _ ?_;clear N3 D3;refine put λD3 N3=>?_;refine⟨_,U,_,U,_,U,p,d,X,W,ps,ms,fs,3,U,hL.but I5.g I5.b,by lia,(show 3<=2+1 by decide),λv H6 e g6 b6 hv ev eb=>?_⟩;refine N3 _ _ ?_;clear N3 D3;have he:Jf W ps ms fs 2 e:=⟨ev,eb⟩;have I6:=I5.but Y g6 b6;have B':∀(L:Hp)(r:Nat)(v vn:V)(g:Sd),SI H p D W ps ms fs 2 i L->∀M,∀s:List Sd,L D=some (.lst M)->Paired (λv g=>Qq L g v) M s->s.length=i->(s.filter Sd.isCell).length<=1->(∀g∈s,yL W ps ms fs 2 g)->Qq L g vn->yL W ps ms fs 2 g->(g.isCell=true->s.filter Sd.isCell=[])->∃v6 v7 v8:Option V,[some<|.ref p,some<|.ref d,some<|.ref X,some<|.ref D,some<|.int (i:Nat),some<|.int r,some v]=[some<|.ref p,some<|.ref d,some<|.ref X,some<|.ref D,v6,v7,v8]/\SI H p D W ps ms fs 2 (i+1) (aB L D<|.lst<|M++[vn]):=λL r v vn g J M s e1 e2 e3 e4 e5 e6 e7 e8=>⟨_,_,_,U,J.next nl Y e1 e2 e3 e4 e5 e6 e7 e8⟩;refine⟨?_,?_,?_⟩
   ·intro H7 z;obtain⟨Zf,i',⟨r',v',e',I,I7,eh,Z1⟩,ZM,es,YW,M,ss,G,Od,W3,X8,WL⟩:=z;have ei:(i:Int)=(i':Int):=by
     have:=e_ (λl:List (Option V)=>l[4]?) I;simpa using this
    have Z:i=i':=by lia
    subst Z;cases I;refine⟨_,U,.inl ⟨U,_,P8.of G⟩,_,U,_,U,_,U,p,d,X,W,ps,ms,fs,U,hL.but I7.g I7.b,λva L ea g8 b8 XR eg ey=>?_⟩;refine⟨_,U,Qa,λt nt=>?_⟩;generalize O:aB L t _=H9;have s9:=(nw nt O).1;have e9:=(nw nt O).2;clear O;have Xu:Ql p H7 H9:=b8.same s9;have I9:=I7.but Y (g8.same s9) Xu;have ZQ:Qi H7 H9:=bK I7.g Xu;refine⟨D,_,_,U,U,Xu _ _ G Y.symm,?_,?_⟩
    ·have:=Od.length;lia
    exact N1 _ _ (B' H9 _ _ _ (.cell ea e') I9 M ss (Xu _ _ G Y.symm) (bq (R:=λv g=>Qq H7 g v) (λ_ _ h'=>Qq.kt ZQ h') Od) W3 (by rw[X8];decide) WL ⟨t,va,v,U,e9,XR.kt<|ak s9,eh.kt ZQ⟩ ⟨⟨eg _,Z1.1⟩,by show(eW e'&&lC ea)=true;rw[Z1.2,ey];rfl⟩ λ_=>X8)
   ·intro H7 z;obtain⟨Zf,i',⟨r',v',e',I,I7,eh,Z1⟩,ZM,es,YW⟩:=z;have ei:(i:Int)=(i':Int):=by
     have:=e_ (λl:List (Option V)=>l[4]?) I;simpa using this
    have Z:i=i':=by lia
    subst Z;cases I;refine⟨?_,?_,?_⟩
    ·rintro L ⟨⟨Zf,i',⟨r',v',e',I,J,ec,er⟩,ZM,es,YW⟩,Oe⟩;have ei:(i:Int)=(i':Int):=by
      have:=e_ (λl:List (Option V)=>l[4]?) I;simpa using this
     have Z:i=i':=by lia
     subst Z;cases I;obtain⟨M,ss,G,Od,W3,X8,WL⟩:=J.x;have L8:=hL.but J.g J.b;have YE:1<=ms.length:=Ng.mpr Oe;refine⟨_,U,.inl ⟨U,_,P8.of G⟩,_,U,_,U,_,U,p,Uk,d,X,W,ps,ms,fs,U,L8.g,L8.t,L8.f,L8.f3,.inr U,by rw[dI];exact YE,by rw[dI];exact L8.m10,λva Ha bb nn ga ba XR hs=>?_⟩;rw[dI]at hs;have La:=L8.but ga ba;refine⟨_,U,_,U,_,U,p,d,X,W,ps,ms,fs,U,La,λvt Hb et gb ed eN el=>⟨Qa,λt nt=>?_⟩⟩;have XR:=XR.kt (bK ga ed);have ga:=gb;have ba:=ba.trans ed;generalize O:aB Hb t _=H9;have s9:=(nw nt O).1;have e9:=(nw nt O).2;clear O;have Xu:Ql p L H9:=ba.same s9;have I9:=J.but Y (ga.same s9) Xu;have ZQ:Qi L H9:=bK J.g Xu;refine⟨D,_,_,U,U,Xu _ _ G Y.symm,?_,?_⟩
     ·have:=Od.length;lia
     exact N1 _ _ (B' H9 _ _ _ (.mk bb nn et) I9 M ss (Xu _ _ G Y.symm) (bq (R:=λv g=>Qq L g v) (λ_ _ h'=>Qq.kt ZQ h') Od) W3 X8 WL ⟨t,va,vt,U,e9,XR.kt<|ak s9,eN.kt<|ak s9⟩ ⟨⟨hs,el _⟩,Fj<|el 0⟩ λh=>by cases h)
    ·intro L z;obtain⟨Zf,i',⟨r',v',e',I,J,ec,er⟩,ZM,es,YW⟩:=z;have ei:(i:Int)=(i':Int):=by
      have:=e_ (λl:List (Option V)=>l[4]?) I;simpa using this
     have Z:i=i':=by lia
     subst Z;cases I;obtain⟨M,ss,G,Od,W3,X8,WL⟩:=J.x;have L8:=hL.but J.g J.b;refine⟨_,U,.inl ⟨U,_,P8.of G⟩,_,U,_,U,_,U,p,Uh,d,X,W,ps,ms,fs,U,L8.g,L8.t,L8.f,L8.f3,.inl U,by rw[ci];exact L8.p1,by rw[ci];exact L8.p10,λva Ha bb nn ga ba XR hs=>?_⟩;rw[ci]at hs;refine⟨_,U,Qa,λt nt=>?_⟩;generalize O:aB Ha t _=H9;have s9:=(nw nt O).1;have e9:=(nw nt O).2;clear O;have Xu:Ql p L H9:=ba.same s9;have I9:=J.but Y (ga.same s9) Xu;have ZQ:Qi L H9:=bK J.g Xu;refine⟨D,_,_,U,U,Xu _ _ G Y.symm,?_,?_⟩
     ·have:=Od.length;lia
     exact N1 _ _ (B' H9 _ _ _ (.pl bb nn e') I9 M ss (Xu _ _ G Y.symm) (bq (R:=λv g=>Qq L g v) (λ_ _ h'=>Qq.kt ZQ h') Od) W3 X8 WL ⟨t,va,v,U,e9,XR.kt<|ak s9,ec.kt ZQ⟩ ⟨⟨hs,er.1⟩,er.2⟩ λh=>by cases h)
    ·refine⟨_,U,U,_,U,bE (λh=>?_) λh=>cD ⟨D,i,⟨r,v,e',U,I7,eh,Z1⟩,nl,Y,YW⟩⟩;have L7:=hL.but I7.g I7.b;obtain⟨kvs,lp,lm,a1,a2,a3,a4,a5,a6⟩:=L7.t;refine⟨_,U,d,_,U,bD a1 a4,Qa,λle WC=>?_⟩;generalize O:aB H7 le _=L;have s8:=(nw WC O).1;have e8:=(nw WC O).2;clear O;have J:=I7.but Y (I7.g.same s8) (cH s8);have hJ:nY H p d X W ps ms fs [some<|.ref p,some<|.ref d,some<|.ref X,some<|.ref D,some<|.int (i:Nat),some<|.int r,some v] L:=⟨D,i,⟨r,v,e',U,J,eh.kt<|ak s8,Z1⟩,nl,Y,YW⟩;refine mw (λz hz=>(L7.mn z hz).1) (s8 _ _ a6) e8 ⟨_,U,bE (λh=>⟨hJ,?_⟩) λh=>hJ⟩;intro em;rw[em]at h;simp at h
   ·have YW:i<4:=by lia
    refine⟨_,U,U,_,U,bE (λh=>?_) λh=>cD ⟨D,i,⟨r,v,e,U,I6,hv,he⟩,nl,Y,YW⟩⟩;obtain⟨M,ss,G,Od,W3,X8,WL⟩:=id I6.x;have eF:=Od.length;refine⟨_,U,D,U,⟨_,P8.of G⟩,?_⟩;refine gE (K:=K) (a:=D) (xs:=M) (λj ys H'=>P4 H6 H'/\ys.length<=j/\Paired (λv g=>Qq H6 g v) ys ((ss.take j).filter Sd.isCell)) ⟨P4.refl _,Ml _,.nil⟩ (λj ys H' hj⟨s',l',_⟩=>⟨P8.of<|s' _ _ G,by lia⟩) ?_ ?_
    ·rintro j x ys H7 hx ⟨s7,l7,ee⟩;obtain⟨g,hg,Zn⟩:=fh Od hx;have Oh:=(Mc.mp hx).1;obtain⟨pg,rg,rfl,eT⟩:=Zn.at;refine⟨trivial,_,U,pg,_,_,_,U,U,P5.of<|s7 _ _ eT,aZ,U,_,U,?_⟩;rw[A4];refine bE (λh=>?_) (λh=>?_)
     ·refine⟨_,U,Nx.mk Oh ⟨s7,by rw[Md];simp;lia,?_⟩⟩;rw[MW,hg,Nr];have:(some g).toList.filter Sd.isCell=[g]:=by simp[h]
      rw[this];exact fF (R:=λv g=>Qq H6 g v) Zn ee
     ·refine Nx.mk Oh ⟨s7,by lia,?_⟩;rw[MW,hg,Nr];have:(some g).toList.filter Sd.isCell=[]:=by simp[h]
      rw[this,MM];exact ee
    ·rintro ys H7 ⟨s7,l7,ee⟩ lq ZL;rw[show M.length=ss.length by lia,MD]at ee;generalize O:aB H7 lq _=L;have s8:=(nw ZL O).1;have e8:L lq=some (.lst ys):=(nw ZL O).2;clear O;refine⟨Qa,λle WC=>?_⟩;generalize O:aB L le _=H9;have s9:=(nw WC O).1;have e9:=(nw WC O).2;clear O;have en:=(s7.trans s8).trans s9;have I9:=I6.but Y (I6.g.same en) (cH en);have ew:=hv.kt (ak en);refine DS (s9 _ _ e8) (A5 (W:=W) (m:=2) (ps:=ps) (ms:=ms) (fs:=fs) (bq (R:=λv g=>Qq H6 g v) (λ_ _ h'=>Qq.kt (ak en) h') ee) λg hg=>(WL g (NB.mp hg).1).1) e9 ⟨_,U,bE (λh=>?_) λh=>?_⟩
     ·have h0:ys.length=0:=i_ h;have:ss.filter Sd.isCell=[]:=TD (by rw[<-ee.length];exact h0);exact⟨D,i,⟨r,v,e,U,I9,ew,he⟩,nl,Y,YW,M,ss,en _ _ G,bq (R:=λv g=>Qq H6 g v) (λ_ _ h'=>Qq.kt (ak en) h') Od,W3,this,WL⟩
     ·exact⟨D,i,⟨r,v,e,U,I9,ew,he⟩,nl,Y,YW⟩
  ·intro σ H4 z;obtain⟨v6,v7,v8,rfl,I4⟩:=z;obtain⟨M,ss,G,Od,W3,X8,WL⟩:=I4.x;refine N _ _ ?_;refine⟨_,U,D,_,U,.inl ⟨P8.of G,λt nt=>?_⟩⟩;have s5:=ag (o:=.tup M) nt;exact q t M ss _ (I4.g.same s5) (I4.b.same s5) aa (bq (R:=λv g=>Qq H4 g v) (λ_ _ h'=>Qq.kt (ak s5) h') Od) (by lia) X8 (λg hg=>(WL g hg).1) (MT.mpr λg hg=>(WL g hg).2)
end
def nZ(e:Vz):Ee->Prop
 |.w0 s=>s∈([UJ,UN,UO]:Vx)
 |.fault z=>de z
 |.go s j=>s∈([U4,Uz]:Vx)/\∃z:Str,e[j]?=some (z,(U3:Str))
def DV(t o:Vx)(e:Vz):Tt->Prop
 |.top b n=>cg t Uh e b n
 |.pl b n=>cg t Uh e b n
 |.mk b n=>cg o Uk e b n
def eA(W:Nat)(r i:Vx)(o:Vz)(m:Nat):Nat->Dd->Prop
 |_,.leaf s e=>s.length<=4/\(s.filter Sd.isCell).length<=1/\(∀g∈s,gf W r i o m g)/\nZ o e
 |0,.ite _ _ _=>False
 |c+1,.ite t y n=>DV r i o t/\eA W r i o m c y/\eA W r i o m c n
inductive JR(p:Vr)(d:Vr)(o:Vr)(t:Vz)(H:Hp)(r:Nat)(i:St)(e:Hp):Prop
 |mk(lb:_):i=[some<|.ref p,some<|.ref o,some<|.ref lb,some<|.int r]->Qg e p->Ql p H e->p≠lb->e lb=some (.lst<|fc<|cV U3 t t.length)->JR p d o t H r i e
inductive vZ(vs:VA)(H:Hp)(Q:VK)(r:XK):Prop
 |mk(p d i W f m o:_):vs=[.ref p,.ref i]->Lx H p d i W f m o->(∀v t e,Qg t p->Ql p H t->SK t e v->nZ o e->Q v t)->vZ vs H Q r
def Jh(r:Nat):∃z:Str,oH ([V.str U4,.str U4,.str Uz]:VA) ((r:Int)%3)=some (.str z)/\z∈([U4,Uz]:Vx):=by
 have e:(r:Int)%3=((r%3:Nat):Int):=by lia
 rw[e];have q:r%3<3:=S6 _ zd
 match r%3,q with
 |0,_=>exact⟨U4,aI (j:=0) U,zk⟩
 |1,_=>exact⟨U4,aI (j:=1) U,zk⟩
 |2,_=>exact⟨Uz,aI (j:=2) U,zk⟩
def Sh:Vx:=[("zq":Str),"deepq","baq"]
def yM(z:Str):de z↔(z∉Q0/\1<=z.length/\z.length<=8/\(z.cps.toList.all λc=>decide (97<=c)&&decide (c<=122))=true)/\z∉([(Vg:Str),(Vh:Str)]:Vx):=by
 unfold de Qh;simp only[MT,Nh,G_]
def GP:∀z∈Sh,de z:=by
 intro z q;rw[yM];revert z;decide +kernel
section
def RP:ax [Ue,Uf,U0,UK] [Ue,Uf] (aj wY):=cP zk
def DW(F:Qj K "_law_end" "_law_end" wY f fd)(B:Bl mg)(B3:Ff mg)(F':Fn P w K mg C "_law_take" 1 [Ue,Uw] dE):P7 P w K mg C ce 2 f fd [Ue,Uf] vZ:=by
 have ZZ:=RP
 walk_at "o"
 ·obtain⟨p,d,Z,W,ps,ms,m,rfl,hL,q⟩:=h;have hu:=eE hr;have sz:(100000:Nat)<=sizeLine:=by decide
  have h3:=hL.f3;refine⟨_,ae (gv (i:=2) RP.nd U U (N':=[Vm,Ux,Uy]) (ix:=[none,none,none]) (sc0:=aj wY) (N:=[Ue,Uf,U0,UK]) U zk (jI U B3.enumerate<|aV<|pv 1)
     (λC' cl s H fp=>ej (K:=K) (n:=2) U U<|aq (gZ (i:=0) qT)<|aq (ej (K:=K) (n:=2) U U<|aq (gZ (i:=1) qT)<|aq (gZ (i:=2) qT) bi) bi) (λ_ _ _ _ _=>ie<|bY aR (pv 2) ah) (λC' cl s H fp=>pv 0))
   (bH (λR O=>∃r:Nat,JR p d Z m H r R O) (bP 3 RP.nd<|ap F' hr U<|bj (pv 0) af)
   (ae (aP (c6 (λR O=>∃r:Nat,JR p d Z m H r R O/\cV U3 m m.length≠[]) (λR O=>∃r:Nat,JR p d Z m H r R O)<|PW.pt<|bW (bY (QA hr) (pv 2)<|aM bN)<|bG<|bY eR (pv 3) af)
     (ai<|ao<|aw<|bj (eZ (aM<|du ah ah ah)<|az ft (pv 3) af)<|eZ (pv 2)<|ap F' hr U<|bj (pv 0)<|aC aT (by rfl) B.len MG<|aV<|pv 2) ay)
   (ae (aP (bY aR (pv 3) af) (ai<|ao<|aw<|aV ah) ay)
   (ae (aP (c6 (λR O=>∃r:Nat,JR p d Z m H r R O) (λR O=>∃r:Nat,JR p d Z m H r R O)<|PW.pt<|bW (bY aR (pv 3) af)<|bG<|bY aR (ap F' hr U<|bj (pv 0) af) af) (ai<|ao<|aw<|aV ah) ay)
   (ae (aP (c6 (λR O=>∃r:Nat,JR p d Z m H r R O) (λR O=>∃r:Nat,JR p d Z m H r R O)<|PW.pt<|bW (bY aR (pv 3) af)<|bG<|bY aR (ap F' hr U<|bj (pv 0) af) af)
     (ai<|ao<|aw<|bj ah<|eZ (aM<|du ah ah ah)<|ap F' hr U<|bj (pv 0) af) ay)
   (ai<|ao<|aw<|aV ah)))))),?_⟩
  obtain⟨us,Xa,Od⟩:=id hL.f;have lu:=Od.length;refine⟨_,U,Z,U,⟨_,P8.of Xa⟩,?_⟩;refine jV (K:=K) (l:=Z) (xs:=us) (λi ys O=>P4 H O/\ys=fc (cV U3 m i)) ⟨P4.refl _,U⟩ (λi ys O hi⟨s',e'⟩=>⟨P8.of<|s' _ _ Xa,by rw[e',eV];have:=fW U3 m i;lia⟩) ?_ ?_
  ·rintro i x ys H1 T1 hx nT ⟨s1,rfl⟩;obtain⟨z,X,pf,rfl,Wa⟩:=fh Od hx;have s2:=ag (o:=.tup [.int (i:Int),.ref pf]) nT;have Og:=s1.trans s2;have Oh:=(Mc.mp hx).1;refine⟨T1,_,U,P5.of aa,U,_,_,U,_,_,U,⟨pf,_,U,P5.of<|Og _ _ Wa,U,_,_,U,_,_,U,U,U,trivial,?_⟩⟩;refine⟨_,U,U,_,U,bE (λh=>?_) λh=>?_⟩
   ·have M:z.2=U3:=V.str.inj (i_ h);refine⟨_,U,Nx.mk Oh ⟨Og,?_⟩⟩;rw[dN X,g_ M];unfold fc;rw[Mq];rfl
   ·have M:¬z.2=U3:=λe=>h (b_<|by rw[e]);refine Nx.mk Oh ⟨Og,?_⟩;rw[dN X,f_ M,MM]
  ·rintro ys H1 ⟨s1,rfl⟩ L WD;rw[lu];have Zm:=fW U3 m m.length;generalize Y:aB H1 L _=H2;have s2:=(nw WD Y).1;have e2:H2 L=some (.lst<|fc<|cV U3 m m.length):=(nw WD Y).2;clear Y;have D:p≠L:=(hL.g.same s1).ne WD;have W8:=s1.trans s2;have w0:∀(z:Str)H5,z∈([UJ,UN,UO]:Vx)->Qg H5 p->Ql p H H5->1<=sizeLine/\∀t,H5 t=none->Q (.ref t) (aB H5 t<|.tup [.str z]):=λz H5 X g5 b5=>⟨zd,λt nt=>by
    have J:=ag (o:=.tup [.str z]) nt;exact q _ _ (.w0 z) (g5.same J) (b5.same J) ⟨t,U,aa⟩ X⟩
   refine⟨?_,?_⟩
   ·intro R H4 z;obtain⟨r,L,rfl,g4,b4,D,e4⟩:=z;refine⟨?_,?_,?_⟩
    ·rintro H5 ⟨r',⟨XF,e,g5,b5,Wd,e5⟩,Oe⟩;have er:(r:Int)=(r':Int):=by
      have:=e_ (λl:List (Option V)=>l[3]?) e;simpa using this
     have ee:r=r':=by lia
     subst ee;cases e;have L':0<(cV U3 m m.length).length:=Ng.mpr Oe;obtain⟨z,et,ea⟩:=Jh r;refine⟨Qa,λlg ng=>?_⟩;generalize Y:aB H5 lg _=H6;have J:=(nw ng Y).1;have e6:=(nw ng Y).2;clear Y;refine⟨_,U,_,_,U,U,(by show(0:Int)<3;decide),lg,_,_,_,U,U,P8.of e6,et,_,U,_,U,_,U,L,_,U,.inl<|P8.of<|J _ _ e5,?_⟩;rw[eV];refine⟨p,(cV U3 m m.length).length,U,g5.same J,L',zo,λj H7 hj G I=>?_⟩;obtain⟨Y,ei⟩:=jX (MX hj);refine⟨L,_,_,_,U,U,P8.of<|I _ _ (J _ _ e5) D.symm,aI<|mr hj,Qa,λt nt=>?_⟩;have s8:=ag (o:=.tup [.str z,.int ((cV U3 m m.length)[j]:Nat)]) nt;exact q _ _ (.go z (cV U3 m m.length)[j]) (G.same s8) (((b5.same J).trans I).same s8) ⟨t,U,aa⟩ ⟨ea,Y,ei⟩
    ·intro H5 z;obtain⟨r',XF,e,g5,b5,Wd,e5⟩:=z;cases e;refine⟨_,U,U,_,U,bE (λh=>w0 UN H5 zk g5 b5) λh=>?_⟩;refine⟨?_,?_,?_⟩
     ·intro H6 z;obtain⟨r',XF,e,g6,b6,Wd,e6⟩:=z;exact w0 UO H6 zk g6 b6
     ·intro H6 z;obtain⟨r',XF,e,g6,b6,Wd,e6⟩:=z;cases e;refine⟨?_,?_,?_⟩
      ·intro H7 z;obtain⟨r',XF,e,G,I,Wd,e7⟩:=z;cases e;refine⟨Qa,λl8 n8=>?_⟩;generalize Y:aB H7 l8 _=H8;have s8:=(nw n8 Y).1;have e8:H8 l8=some (.lst<|am Sh):=(nw n8 Y).2;clear Y;have en:p≠l8:=G.ne n8;refine⟨_,U,p,3,U,G.same s8,zd,zd,λj Hb hj gb bb=>?_⟩;have Ya:j<Sh.length:=hj;refine⟨l8,_,_,_,U,U,P8.of<|bb _ _ e8 en.symm,aI (v:=.str Sh[j]) (by unfold am;rw[Mt,Mi Ya];rfl),Qa,λt nt=>?_⟩;have sc:=ag (o:=.tup [.str Ut,.str Sh[j]]) nt;exact q _ _ (.fault Sh[j]) (gb.same sc) (((I.same s8).trans bb).same sc) ⟨t,U,aa⟩ (GP _<|MX Ya)
      ·intro H7 z;obtain⟨r',XF,e,G,I,Wd,e7⟩:=z;exact w0 UJ H7 zk G I
      ·refine⟨_,U,U,_,U,bE (λh=>?_) λh=>cD ⟨_,L,U,g6,b6,D,e6⟩⟩;refine⟨_,U,p,3,U,g6,zd,zd,λj H7 hj G I=>?_⟩;exact⟨U,_,U,bE (λh=>⟨_,L,U,G,b6.trans I,D,I _ _ e6 D.symm⟩) λh=>⟨_,L,U,G,b6.trans I,D,I _ _ e6 D.symm⟩⟩
     ·refine⟨_,U,U,_,U,bE (λh=>?_) λh=>cD ⟨_,L,U,g5,b5,D,e5⟩⟩;refine⟨_,U,p,3,U,g5,zd,zd,λj H7 hj G I=>?_⟩;exact⟨U,_,U,bE (λh=>⟨_,L,U,G,b5.trans I,D,I _ _ e5 D.symm⟩) λh=>⟨_,L,U,G,b5.trans I,D,I _ _ e5 D.symm⟩⟩
    ·refine⟨_,U,Qa,λle WC=>?_⟩;generalize Y:aB H4 le _=H6;have J:=(nw WC Y).1;have e6:=(nw WC Y).2;clear Y;have hJ:JR p d Z m H r [some<|.ref p,some<|.ref Z,some<|.ref L,some<|.int r] H6:=⟨L,U,g4.same J,b4.same J,D,J _ _ e4⟩;refine mv (J _ _ e4) e6 ⟨_,U,bE (λh=>?_) λh=>cD ⟨r,hJ⟩⟩;refine⟨_,U,_,_,U,U,_,U,bE (λM=>⟨r,hJ,?_⟩) λM=>⟨r,hJ⟩⟩;intro e;rw[e]at h;simp at h
   ·refine⟨_,U,p,10,U,hL.g.same W8,zd,zd,λr H4 N9 g4 b4=>?_⟩;exact⟨r,L,U,g4,(cH W8).trans b4,D,b4 _ _ e2 D.symm⟩
end
def lO:Dd->Bool
 |.leaf s _=>s.all lR
 |.ite _ y n=>lO y&&lO n
inductive qX(vs:VA)(H:Hp)(Q:VK)(f:XK):Prop
 |mk(p d i W m r o:_):vs=[.ref p,.ref d,.ref i]->Lx H p d i W m r o->(∀v e t,Qg e p->Ql p H e->SB e t v->DV m r o t->Q v e)->qX vs H Q f
inductive tZ(c:Nat)(vs:VA)(H:Hp)(Q:VK):Prop
 |mk(p d o W r i t:_)(c':Nat):vs=[.ref p,.ref d,.ref o,.int c']->Lx H p d o W r i t->c'<=c->(∀v e dd,Qg e p->Ql p H e->RD e dd v->eA W r i t 2 c' dd->lO dd=true->Q v e)->tZ c vs H Q
def mB:Nat->Sp
 |0=>li
 |c+1=>λvs H Q _=>tZ c vs H Q
def GQ(l:Vx):(2+(if(!decide (l=[]))=true then 1 else 0):Int)=((if l=[]then 2 else 3:Nat):Int):=by
 by_cases h:l=[]
 ·rw[g_ h,b_ h];rfl
 ·rw[f_ h,c_ h];rfl
section
def R7:ax [Ue,Ug,Uf,UK] [Ue,Ug,Uf] (aj vk):=cP zk
def A9(F:Qj K "_law_test" "_law_test" vk f fd)(B:Bl N)(F':Fn P w K N i "_law_take" 1 [Ue,Uw] dE)(SL:Fn P w K N i "_law_sel" 2 [Ue,Uy,Ug,Uf] jq):P7 P w K N i ce 3 f fd [Ue,Ug,Uf] qX:=by
 have ZZ:=R7
 walk_at "o"
 ·obtain⟨p,d,X,W,ps,v,M,rfl,J,q⟩:=h;have hu:=eE hr;refine⟨_,(ae (bP 3 R7.nd<|ap F' hr.m U<|bj (pv 0)<|az bM af<|aU dJ (by rfl) B.int M0<|aV<|uC (QA hr) (bv hu (pv 1) ah)<|aM bN)<|ae (aP (bY aR (pv 3) af) (ai<|ao<|aw<|bj ah<|ap SL hr U<|jF (pv 0) ah (pv 1)<|pv 2) ay)<|ai<|ao<|aw<|bj (eZ (aM<|bj ah ah)<|pv 3)<|ap SL hr U<|jF (pv 0) ah (pv 1)<|pv 2),?_⟩;obtain⟨kvs,lp,lm,a1,a2,a3,a4,a5,a6⟩:=id J.t;refine⟨_,U,_,U,d,_,U,bD a1 a4,Qa,λle WC=>?_⟩;generalize zz:aB H le _=H1;have R:=(nw WC zz).1;have e1:=(nw WC zz).2;clear zz;refine mw (λz hz=>(J.mn z hz).1) (R _ _ a6) e1 (.inr ⟨_,U,_,_,U,U,?_⟩);refine⟨p,if v=[]then 2 else 3,e_ (λx=>[V.ref p,V.int x])<|GQ v,J.g.same R,by split<;>decide,by split<;>decide,λr C N9 g2 b2=>?_⟩;have G:Ql p H C:=(cH R).trans b2;have Y:=J.but g2 G;refine⟨_,U,U,_,U,bE (λh=>?_) λh=>?_⟩
  ·have h2:(r:Int)=2:=V.int.inj (i_ h);have Oe:v≠[]:=λe=>by rw[g_ e]at N9;lia
   have YE:1<=v.length:=Ng.mpr Oe;refine⟨_,U,_,U,_,U,p,Uk,d,X,W,ps,v,M,U,Y.g,Y.t,Y.f,Y.f3,.inr U,by rw[dI];exact YE,by rw[dI];exact Y.m10,λD Ha bb nn ga ba XR L=>⟨Qa,λtt nt=>?_⟩⟩;rw[dI]at L;have I:=ag (o:=.tup [.str Uk,D]) nt;exact q _ _ (.mk bb nn) (ga.same I) ((G.trans ba).same I) ⟨tt,D,U,aa,XR.kt<|ak I⟩ L
  ·have Z:r<2:=by
    have:¬(r:Int)=2:=λe=>h (b_<|e_ V.int e);split at N9<;>lia
   refine⟨Qa,λlg ng=>?_⟩;generalize zz:aB C lg _=H3;have j:=(nw ng zz).1;have e3:=(nw ng zz).2;clear zz;obtain⟨tb,ee⟩:∃t:Bool,([V.str Uh,.str UW]:VA)[r]?=some (.str<|if t then UW else Uh):=by
    match r,Z with
    |0,_=>exact⟨false,U⟩
    |1,_=>exact⟨true,U⟩
   refine⟨_,U,lg,_,_,_,U,U,P8.of e3,aI ee,?_⟩;have O:=J.but (g2.same j) (G.same j);refine⟨_,U,_,U,_,U,p,Uh,d,X,W,ps,v,M,U,O.g,O.t,O.f,O.f3,.inl U,by rw[ci];exact O.p1,by rw[ci];exact O.p10,λD Ha bb nn ga ba XR L=>⟨Qa,λtt nt=>?_⟩⟩;rw[ci]at L;cases tb with
   |true=>
    have I:=ag (o:=.tup [.str UW,D]) nt;exact q _ _ (.top bb nn) (ga.same I) (((G.same j).trans ba).same I) ⟨tt,D,U,aa,XR.kt<|ak I⟩ L
   |false=>
    have I:=ag (o:=.tup [.str Uh,D]) nt;exact q _ _ (.pl bb nn) (ga.same I) (((G.same j).trans ba).same I) ⟨tt,D,U,aa,XR.kt<|ak I⟩ L
def Rw:ax [Ue,Ug,Uf,UT,"_law_test_here","_law_yes"] [Ue,Ug,Uf,UT] (aj vf):=cP zk
def n0(F:Qj K "_law_plain_deed" "_law_plain_deed" vf f fd)(F':Fn P w K j i "_law_take" 1 [Ue,Uw] dE)(ST:Fn P w K j i "_law_plain_sets" n [Ue,Ug,Uf] qW)(EN:Fn P w K j i "_law_end" 2 [Ue,Uf] vZ)(TE:Fn P w K j i "_law_test" 3 [Ue,Ug,Uf] qX)(DE:Fn P w K j i "_law_plain_deed" n [Ue,Ug,Uf,UT] (mB c))(hn:3<=n):P7 P w K j i ce (n+1) f fd [Ue,Ug,Uf,UT] (mB<|c+1):=by
 have ZZ:=Rw
 walk_at "o"
 ·obtain⟨p,d,z,W,C,N,m,O,rfl,hL,hc,q⟩:=h;have N8:P9 1 _:=hr.mono (by lia);have N9:P9 2 _:=hr.mono (by lia);have V':P9 3 _:=hr.mono hn;refine⟨_,(ae (aP (c6 (λ_ D=>Qg D p/\Ql p H D) (λ_ D=>Qg D p/\Ql p H D/\1<=O)<|PW.pt<|fL (bY aR (pv 3) af)<|dU<|bY aR (ap F' N8 U<|bj (pv 0) af) af) (ai<|ao<|aw<|du ah (ap ST hr U<|du (pv 0) (pv 1)<|pv 2)<|ap EN N9 U<|bj (pv 0)<|pv 2) ay)<|ae (bP 4 Rw.nd<|ap TE V' U<|du (pv 0) (pv 1)<|pv 2)<|ae (bP 5 Rw.nd<|ap DE hr U<|jF (pv 0) (pv 1) (pv 2)<|az kD (pv 3) af)<|ai<|ao<|aw<|jF ah (pv 4) (pv 5)<|ap DE hr U<|jF (pv 0) (pv 1) (pv 2)<|az kD (pv 3) af),?_,?_,?_⟩
  ·rintro X ⟨g1,Y⟩;have L:=hL.but g1 Y;refine⟨_,U,_,U,_,U,p,d,z,W,C,N,m,U,L,λB us ss M J G e2 W5 h4 XW WL K'=>?_⟩;have ee:=L.but J G;refine⟨_,U,_,U,p,d,z,W,C,N,m,U,ee,λve H3 e g3 b3 en et=>⟨Qa,λtt nt=>?_⟩⟩;have s4:=ag (o:=.tup [.str Vk,.ref B,ve]) nt;have Z:Qi M H3:=bK J b3;refine q _ _ (.leaf ss e) (g3.same s4) (((Y.trans G).trans b3).same s4) ⟨tt,B,us,ve,U,aa,s4 _ _<|Z _ _ e2,bq (R:=λv g=>Qq M g v) (λ_ _ h'=>Qq.kt (ak s4)<|Qq.kt Z h') W5,en.kt<|ak s4⟩ ?_ K';cases O<;>exact⟨h4,XW,WL,et⟩
  ·rintro X ⟨g1,Y,XX⟩;obtain⟨I,rfl⟩:∃I,O=I+1:=⟨O-1,by lia⟩;have ec:((I+1:Nat):Int)-1=((I:Nat):Int):=by lia
   cases c with
   |zero=>lia
   |succ c=>
    have L:=hL.but g1 Y;refine⟨_,U,_,U,_,U,p,d,z,W,C,N,m,U,L,λvt M t J G ht YT=>?_⟩;have L2:=L.but J G;refine⟨_,U,_,U,_,U,_,U,_,_,U,U,p,d,z,W,C,N,m,I,e_ (λx=>[V.ref p,V.ref d,V.ref z,V.int x]) ec,L2,by lia,λvy H5 dy g5 b5 hy ZR es=>?_⟩;have L5:=L2.but g5 b5;refine⟨_,U,_,U,_,U,_,U,_,U,_,U,_,_,U,U,p,d,z,W,C,N,m,I,e_ (λx=>[V.ref p,V.ref d,V.ref z,V.int x]) ec,L5,by lia,λvn H6 dn g6 b6 ea W' ei=>⟨Qa,λtt nt=>?_⟩⟩;have s7:=ag (o:=.tup [.str Vf,vt,vy,vn]) nt;have eh:Qi M H6:=bK J (b5.trans b6);refine q _ _ (.ite t dy dn) (g6.same s7) ((((Y.trans G).trans b5).trans b6).same s7) ⟨tt,vt,vy,vn,U,aa,(ht.kt eh).kt<|ak s7,(hy.kt<|bK g5 b6).kt<|ak s7,ea.kt<|ak s7⟩ ?_ ?_
    ·simp only[eA];exact⟨YT,ZR,W'⟩
    ·show(lO dy&&lO dn)=true;rw[es,ei];rfl
  ·refine⟨_,U,U,_,U,bE (λh=>?_) λh=>?_⟩
   ·exact kG ⟨hL.g,Ql.refl _ _⟩
   ·have XX:1<=O:=by
     have:¬(O:Int)=0:=λe=>h (b_<|e_ V.int e);lia
    refine⟨_,U,p,2,U,hL.g,zd,zd,λr H4 V' g4 b4=>?_⟩;exact⟨U,_,U,bE (λh=>⟨g4,b4⟩) λh=>⟨g4,b4,XX⟩⟩
end
def Bb(e:Vz)(j:Nat):Str:=(e.getD j ("","")).1
def fj(L:Vx)(e:Vz)(b:Bool)(n:Nat):Str:=if b=true then Bb e n else L.getD n ""
def dA(r i:Vx)(t:Vz):Ed->Ex
 |.num n=>.num n
 |.fld j=>.nm (Bb t j)
 |.pl b n=>.nm (fj r t b n)
 |.mk b n=>.nm (fj i t b n)
 |.cell e=>.cell (dA r i t e)
 |.two o x y=>.two o (dA r i t x) (dA r i t y)
def dm(i o:Vx)(t:Vz):Sd->Gs
 |.cell a e=>.cell (dA i o t a) (dA i o t e)
 |.pl b n e=>.nm (fj i t b n) (dA i o t e)
 |.mk b n e=>.nm (fj o t b n) (dA i o t e)
def gW(e:Vz):Ee->En
 |.w0 s=>.w0 s
 |.fault z=>.w1 Ut z
 |.go s j=>.w1 s (Bb e j)
def rX(t o:Vx)(e:Vz):Tt->Str
 |.top b n=>fj t e b n
 |.pl b n=>fj t e b n
 |.mk b n=>fj o e b n
def v0:Tt->Bool
 |.top _ _=>true
 |_=>false
def js(r i:Vx)(o:Vz):Dd->Bd
 |.leaf s e=>.leaf (s.map<|dm r i o) (gW o e)
 |.ite t y n=>.ite (v0 t) (rX r i o t) (js r i o y) (js r i o n)
def gV:Option Nat->V
 |none=>.non
 |some g=>.int (g:Nat)
def gL(e:Vx):Option Nat->Vx
 |none=>[]
 |some g=>[e.getD g ""]
inductive RS(o:Vr)(H:Hp)(u:V)(x:Kn):Prop
 |mk(t e b:_):u=.ref t->e≠o->H t=some (.tup [.str x.name,.ref e,b])->RK H e x.fs->RD H x.dd b->RS o H u x
structure KL(W:Nat)(ps ms fn:Vx)(c k:Nat)(x:Kn):Prop where
 fn:∃j,j<=3/\x.fs.map (·.1)=fn.take j
 st:∀f∈x.fs,f.2∈ef
 dd:eA W ps ms x.fs (k-1) c x.dd
 bd:x.bd=js ps ms x.fs x.dd
def yN(n c k:Nat):Prop:=1<=n/\n<=3/\c=2/\k=3
structure qY(D:Fm)(fn:Vx)(gt:Option Nat):Prop where
 w4:4<=D.width
 w24:D.width<=24
 c4:4<=D.cells
 c64:D.cells<=64
 d8:D.depth<=8
 p1:1<=D.places.length
 p4:D.places.length<=4
 m3:D.marks.length<=3
 fl:fn.length=3
 nd:(D.places++D.marks++fn).Nodup
 nf:∀z∈D.places++D.marks++fn,de z
 kn:(D.kinds.map Kn.name).Nodup
 kf:∀x∈D.kinds,de x.name
 ga:D.gates=gL D.marks gt
 gb:∀g,gt=some g->g<D.marks.length
 kl:∃c k,yN D.kinds.length c k/\∀x∈D.kinds,KL D.width D.places D.marks fn c k x
structure Sa(H:Hp)(d:Vr)(D:Fm)(gt:Option Nat)(kvs:List (di×V))(lp lm lk:Vr)(us:VA):Prop where
 ed:H d=some (.dK kvs)
 v1:bA kvs (kS Uj)=some (.int D.width)
 v2:bA kvs (kS Uo)=some (.int D.cells)
 v3:bA kvs (kS Uq)=some (.int D.depth)
 v4:bA kvs (kS Ul)=some (.ref lp)
 v5:bA kvs (kS Up)=some (.ref lm)
 v6:bA kvs (kS UD)=some (gV gt)
 v7:bA kvs (kS UE)=some (.ref lk)
 ep:H lp=some (.lst<|am D.places)
 em:H lm=some (.lst<|am D.marks)
 ek:H lk=some (.lst us)
 ks:Paired (RS lk H) us D.kinds
inductive oa(vs:VA)(H:Hp)(Q:VK)(i:XK):Prop
 |mk(p:Vr)(most:Nat):vs=[.ref p,.int most]->Qg H p->1<=most->most<=3->(∀d t D o e f m r v fn,Qg t p->Ql p H t->Sa t d D o e f m r v->qY D fn o->H d=none->e.length<=7->(∀x∈D.kinds,lO x.dd=true)->Q (.ref d) t)->oa vs H Q i
structure TN(H:Hp)(p d Ob ln:Vr)(A b:Nat)(zs:Vx)(kv:List (di×V))(H':Hp):Prop where
 g:Qg H' p
 bb:Ql p H H'
 nd:H d=none
 pd:p≠d
 ed:H' d=some (.dK kv)
 emn:H' Ob=some (.lst [.int (A:Nat),.int (b:Nat)])
 eln:H' ln=some (.lst<|am zs)
def TN.but(h:TN H p d Ob ln A b r i o)(g:Qg t p)(q:Ql p o t):TN H p d Ob ln A b r i t:=
 ⟨g,h.bb.trans q,h.nd,h.pd,q _ _ h.ed h.pd.symm,q _ _ h.emn (bJ h.g h.emn λx y z e=>by have:=e_ List.length (HO.lst.inj e);simp[qv]at this),q _ _ h.eln<|bJ h.g h.eln<|cM _⟩
def TN.same(h:TN H p d Ob ln A b i o e)(s:P4 e t):TN H p d Ob ln A b i o t:=h.but (h.g.same s) (cH s)
section
variable{x d:Vr}{H:Hp}
def wa{l:VA}{k:List (di×V)}(h:H x=some (.lst l))(e:H d=some (.dK k)):x≠d:=by
 rintro rfl;rw[h]at e;cases e
variable{R:List (di×V)}{M:Vx}{A b:Nat}{p Ob ln:Vr}{H1:Hp}
def TN.put(h:TN H p d Ob ln A b M R H1)(kv':List (di×V)):TN H p d Ob ln A b M kv' (aB H1 d<|.dK kv'):=by
 have q:∀x l,H1 x=some (.lst l)->(aB H1 d<|.dK kv') x=some (.lst l):=λx l e=>by rw[al<|wa e h.ed];exact e
 refine⟨?_,?_,h.nd,h.pd,aa,q _ _ h.emn,q _ _ h.eln⟩
 ·obtain⟨x,y,z,e⟩:=h.g;exact⟨x,y,z,q _ _ e⟩
 ·intro c o e n;rw[al<|au e h.nd];exact h.bb c o e n
def eB{l:VA}{k kv':List (di×V)}(h:H1 x=some (.lst l))(e:H1 d=some (.dK k)):(aB H1 d<|.dK kv') x=some (.lst l):=by rw[al<|wa h e];exact h
def LW(z q O:V):∃R,fY [] [(kS Uj,z),(kS Uq,O)]=R/\R.length<=2/\bA (bh R (kS Uo) q) (kS Uj)=some z/\bA (bh R (kS Uo) q) (kS Uo)=some q/\bA (bh R (kS Uo) q) (kS Uq)=some O:=by
 refine⟨_,U,fZ _ _,?_,?_,?_⟩
 ·show bA (bh (bh (bh [] (kS Uj) z) (kS Uq) O) (kS Uo) q) _=_;rw[bO zk,bO zk,iw]
 ·rw[iw]
 ·show bA (bh (bh (bh [] (kS Uj) z) (kS Uq) O) (kS Uo) q) _=_;rw[bO zk,iw]
structure TL(H:Hp)(p d Ob ln lp lm lk:Vr)(A b W cl dp:Nat)(M:Vx)(R:List (di×V))(gt:Option Nat)(H':Hp):Prop where
 tn:TN H p d Ob ln A b M R H'
 v1:bA R (kS Uj)=some (.int (W:Nat))
 v2:bA R (kS Uo)=some (.int (cl:Nat))
 v3:bA R (kS Uq)=some (.int (dp:Nat))
 v4:bA R (kS Ul)=some (.ref lp)
 v5:bA R (kS Up)=some (.ref lm)
 v6:bA R (kS UD)=some (gV gt)
 v7:bA R (kS UE)=some (.ref lk)
 ep:H' lp=some (.lst<|am<|M.take A)
 em:H' lm=some (.lst<|am<|(M.drop A).take b)
 k1:Ob≠lk
 k2:ln≠lk
 k3:lp≠lk
 k4:lm≠lk
 nk:H lk=none
 pk:p≠lk
def TL.but(h:TL H p d Ob ln m r i A b W t dp M R o H1)(g:Qg e p)(q:Ql p H1 e):TL H p d Ob ln m r i A b W t dp M R o e:=
 ⟨h.tn.but g q,h.v1,h.v2,h.v3,h.v4,h.v5,h.v6,h.v7,q _ _ h.ep<|bJ h.tn.g h.ep<|cM _,q _ _ h.em<|bJ h.tn.g h.em<|cM _,h.k1,h.k2,h.k3,h.k4,h.nk,h.pk⟩
def TL.same(h:TL H p d Ob ln m r i A b W t dp M R o H1)(s:P4 H1 e):TL H p d Ob ln m r i A b W t dp M R o e:=h.but (h.tn.g.same s) (cH s)
variable{W cl dp:Nat}
def TL.app{p d Ob ln D I t:Vr}{O:Option Nat}(h:TL H p d Ob ln D I t A b W cl dp M R O H1){i:VA}(e:H1 t=some (.lst i))(L:VA):TL H p d Ob ln D I t A b W cl dp M R O (aB H1 t<|.lst L):=by
 refine⟨⟨?_,?_,h.tn.nd,h.tn.pd,?_,?_,?_⟩,h.v1,h.v2,h.v3,h.v4,h.v5,h.v6,h.v7,?_,?_,h.k1,h.k2,h.k3,h.k4,h.nk,h.pk⟩
 ·obtain⟨x,y,z,ex⟩:=h.tn.g;exact⟨x,y,z,by rw[al h.pk];exact ex⟩
 ·intro c o q Y;rw[al<|au q h.nk];exact h.tn.bb c o q Y
 ·rw[al (wa e h.tn.ed).symm];exact h.tn.ed
 ·rw[al h.k1];exact h.tn.emn
 ·rw[al h.k2];exact h.tn.eln
 ·rw[al h.k3];exact h.ep
 ·rw[al h.k4];exact h.em
def RS.kp(k:Qi H i)(I:∀x o,x≠r->∀m:Vz,H x=some (.lst o)->Paired (Qp H) o m->i x=some (.lst o)){x:Kn}(h:RS r H u x):RS r i u x:=by
 obtain⟨t,D,b,rfl,q,O,⟨o,e,z⟩,f⟩:=h;exact⟨t,D,b,U,q,k _ _ O,⟨o,I _ _ q _ e z,bq (λ_ _ h=>Qp.kt2 k h) z⟩,f.kt k⟩
def qZ:∀{c:Nat}{d:Dd},eA W i o e m c d->eA W i o e m (c+1) d
 |0,.leaf _ _,h=>h
 |_+1,.leaf _ _,h=>h
 |0,.ite _ _ _,h=>absurd h (by simp[eA])
 |c+1,.ite t y n,h=>⟨h.1,qZ (c:=c) (d:=y) h.2.1,qZ (c:=c) (d:=n) h.2.2⟩
def rf{o t:Vx}{e:Vz}{m c n:Nat}{d:Dd}(h:eA W o t e m c d)(q:c<=n):eA W o t e m n d:=by
 induction q with
 |refl=>exact h
 |step _ z=>exact qZ z
variable{i:Nat}
def K4(w0:Nat)(h:i<2)(q:w0<21):∃W:Nat,oH ([V.int 4,.int<|4+(w0:Int)]:VA) (i:Int)=some (.int (W:Int))/\4<=W/\W<=24:=by
 match i,h with
 |0,_=>exact⟨4,aI (j:=0) U,by lia,by lia⟩
 |1,_=>exact⟨4+w0,aI (j:=1) U,by lia,by lia⟩
def K5(q z:Nat)(h:i<2)(e:q<3)(t:z<61):∃C:Nat,oH ([V.int<|4+(q:Int),.int<|4+(z:Int)]:VA) (i:Int)=some (.int (C:Int))/\4<=C/\C<=64:=by
 match i,h with
 |0,_=>exact⟨4+q,aI (j:=0) U,by lia,by lia⟩
 |1,_=>exact⟨4+z,aI (j:=1) U,by lia,by lia⟩
def yO(M:Vx)(n:Nat):(am M).drop n=am (M.drop n):=by unfold am;rw[List.map_drop]
def SE:Vx:=[Uh,"number",U3,Uk]
def DY(h:i<4):([V.str Uh,.str "number",.str U3,.str Uk]:VA)[i]?=some (.str<|SE.getD i "")/\SE.getD i ""∈ef:=by
 match i,h with
 |0,_=>exact⟨U,zk⟩
 |1,_=>exact⟨U,zk⟩
 |2,_=>exact⟨U,zk⟩
 |3,_=>exact⟨U,zk⟩
def xr(h:yN n c k):1<=n/\n<=3/\c<=3/\2<=k/\k<=4:=by unfold yN at h;lia
def GR(M:Vx)(A b:Nat):M.take A++(M.drop A).take b++M.drop (A+b)=M:=by
 rw[MS,<-List.drop_drop,Nb,Nb]
def wb(g:Qg H p)(b:Ql p H r):∀x t,x≠lk->∀o:Vz,H x=some (.lst t)->Paired (Qp H) t o->r x=some (.lst t):=λx t _ o e q=>b _ _ e (bJ g e<|jW q)
def Ji{A b j:Nat}(h:A+b+j<M.length):oH (am M) ((A:Int)+(b:Int)+(j:Int))=some (.str M[A+b+j]):=by
 have e:(A:Int)+(b:Int)+(j:Int)=((A+b+j:Nat):Int):=by lia
 rw[e];exact aI (by unfold am;rw[Mt,Mi h];rfl)
def pz{t t':TE}(h:PE X e t)(f:∀r H Q,t' r H Q->t r H Q):PE X e t':=⟨λo s r H Q I q=>h o s r H Q I<|f r H Q q⟩
inductive Jj(i j:Nat)(e:St)(H:Hp)(Q:VK):Prop
 |mk(k:Int)(s:Str):e[i]?=some (some<|.int k)->e[j]?=some (some<|.str s)->(∀b:Bool,Q (.int<|if b then 1 else 0) H)->Jj i j e H Q
section
def QG:ax [Ue,"_law_most",Ug,Uw,UA,Ux,Uf,UR,Uy] [Ue,"_law_most"] (aj qp):=cP zk
inductive JT(H:Hp)(p:Vr)(most:Nat)(t:St)(e:Hp)(d Ob ln:Vr)(A b:Nat)(M:Vx)(R:List (di×V))(W cl dp:Nat):Prop
 |mk:t=[some<|.ref p,some<|.int most,some<|.ref d,some<|.ref Ob,some<|.ref ln,none,none,none,none]->TN H p d Ob ln A b M R e->1<=A->A<=4->b<=3->M.length=A+b+3->M.Nodup->(∀z∈M,de z)->4<=W->W<=24->4<=cl->cl<=64->dp<=8->R.length<=7->bA R (kS Uj)=some (.int (W:Nat))->bA R (kS Uo)=some (.int (cl:Nat))->bA R (kS Uq)=some (.int (dp:Nat))->JT H p most t e d Ob ln A b M R W cl dp
inductive Bc(p:Vr)(most:Nat)(H:Hp)(t:St)(e:Hp):Prop
 |mk(d Ob:Vr)(A b:Nat)(R:List (di×V))(W cl dp:Nat):t=[some<|.ref p,some<|.int most,some<|.ref d,some<|.ref Ob,none,none,none,none,none]->Qg e p->Ql p H e->H d=none->p≠d->e d=some (.dK R)->e Ob=some (.lst [.int (A:Nat),.int (b:Nat)])->p≠Ob->1<=A->A<=4->b<=3->R.length<=3->4<=W->W<=24->4<=cl->cl<=64->dp<=8->bA R (kS Uj)=some (.int (W:Nat))->bA R (kS Uo)=some (.int (cl:Nat))->bA R (kS Uq)=some (.int (dp:Nat))->Bc p most H t e
inductive wc(H:Hp)(p:Vr)(most:Nat)(m:St)(e:Hp):Prop
 |mk(d Ob ln A b M R W cl dp r o t:_):JT H p most m e d Ob ln A b M R W cl dp->R.length<=6->bA R (kS Ul)=some (.ref r)->bA R (kS Up)=some (.ref o)->bA R (kS UD)=some (gV t)->e r=some (.lst<|am<|M.take A)->e o=some (.lst<|am<|(M.drop A).take b)->(∀g,t=some g->g<b)->wc H p most m e
def DZ{f:Vr}{fd:Vw}{n:Nat}(F:Qj K "_law_plain_table" "_law_plain_table" qp f fd)(B:Bl mg)(F':Fn P w K mg base "_law_take" 1 [Ue,Uw] dE)(LN:Fn P w K mg base "_law_names" 2 [Ue,Uw] nV)(DE:Fn P w K mg base "_law_plain_deed" n [Ue,Ug,Uf,UT] (mB 3))(hn:2<=n):P7 P w K mg base ce (n+1) f fd [Ue,"_law_most"] oa:=by
 have ZZ:=QG
 walk_at "o"
 ·obtain⟨p,most,rfl,hp,YE,ZU,q⟩:=h;have sz:(100000:Nat)<=sizeLine:=by decide
  have hu:=eE hr;have N8:P9 1 _:=hr.mono (by lia);have N9:P9 2 _:=hr.mono (by lia);refine⟨_,ae (bP 2 QG.nd<|Da (sQ ah (eZ (aM<|bj af<|az bM af<|ap F' N8 U<|bj (pv 0) af)<|ap F' N8 U<|bj (pv 0) af)<|sQ ah (ap F' N8 U<|bj (pv 0) af) C9) U U (by intro z;cases z)<|by show 2<=15;decide)
   (ae (fS hu (pv 2) ah (eZ (aM<|bj (az bM af<|ap F' N8 U<|bj (pv 0) af)<|az bM af<|ap F' N8 U<|bj (pv 0) af)<|ap F' N8 U<|bj (pv 0) af) U)
   (bH (Bc p most H) (bP 3 QG.nd<|aM<|bj (az bM af<|ap F' N8 U<|bj (pv 0) af)<|ap F' N8 U<|bj (pv 0) af)
   (bH (λm C=>∃d Ob ln A b M R W cl dp,JT H p most m C d Ob ln A b M R W cl dp/\R.length<=3) (bP 4 QG.nd<|ap LN N9 U<|bj (pv 0)<|az bM (az bM (eZ (pv 3) af)<|eZ (pv 3) af) af)
   (ae (fS hu (pv 2) ah (cI iC (pv 4) fP<|cz<|eZ (pv 3) af) U)
   (ae (fS hu (pv 2) ah (cI iC (pv 4) (cz<|eZ (pv 3) af)<|cz<|az bM (eZ (pv 3) af)<|eZ (pv 3) af) U)
   (bH (wc H p most) (fS hu (pv 2) ah (eZ (aM<|bj gY<|ap F' N8 U<|bj (pv 0)<|aC (oV U) (by rfl) B.max PyProof.Rows.boot_max<|bj af<|eZ (pv 3) af)<|aU dJ (by rfl) B.int M0<|aV<|fX (uC sf (eZ (pv 3) af) af)<|fb<|uC aR (ap F' N8 U<|bj (pv 0) af) af) U)
   (ae (fS hu (pv 2) ah (aM bN) U)
   (ae (cU h_ U (cW<|ap LN N9 U<|bj (pv 0)<|az bM af<|ap F' N8 U<|bj (pv 0)<|pv 1) (eQ 5 QG.nd)
    (ae (bP 6 QG.nd<|aM bN)
    (ae (cU h_ U (fm U B.range<|aV<|ap F' N8 U<|bj (pv 0) af) (eQ 7 QG.nd)
     (ae (bP 8 QG.nd<|eZ (aM<|jF ah ah ah ah)<|ap F' N8 U<|bj (pv 0) af)
     (ae (bP 8 QG.nd<|eZ (aM<|bj (pv 8) ah)<|pz (t':=Jj 7 8) (aU dJ (by rfl) B.int M0<|aV<|fX (uC sf (pv 7) af)<|fb<|uC mP (pv 8) ah) λm H Q⟨k,s,h1,h2,q⟩=>⟨_,h1,_,_,U,U,_,U,bE (λh=>⟨_,h2,U,.inr ⟨_,U,q _⟩⟩) λh=>.inr ⟨_,U,q false⟩⟩)
     (ai<|aL<|cx Mw My Mx bu (pv 6)<|aV<|aw<|bj (eZ (pv 4)<|az bM (az bM (eZ (pv 3) af)<|eZ (pv 3) af)<|pv 7)<|pv 8))))
    (ai<|aL<|cx Mw My Mx bu (bv hu (pv 2) ah)<|aV<|aw<|du (pv 5) (pv 6)<|ap DE hr U<|jF (pv 0) (pv 2) (pv 6)<|ap F' N8 U<|bj (pv 0) af))))
   (ai<|ao<|pv 2))))))))),?_⟩
  refine put λD N=>?_;refine λd nd=>?_;have s2:=ag (o:=.dK []) nd;have t0:(aB H d<|.dK []) d=some (.dK []):=aa;have g2:=hp.same s2;have pd:p≠d:=hp.ne nd;have b2:Ql p H (aB H d<|.dK []):=cH s2;generalize aB H d (.dK ([]:List (di×V)))=H2 at*;refine⟨_,U,p,21,U,g2,zd,zd,λw0 H3 a8 g3 b3=>?_⟩;refine⟨_,_,U,U,Qa,λl4 n4=>?_⟩;generalize O:aB H3 l4 _=H4;have s4:=(nw n4 O).1;have e4:=(nw n4 O).2;clear O;have nl:=g3.ne n4;refine⟨_,U,p,2,U,g3.same s4,zd,zd,λi5 H5 iT g5 b5=>?_⟩;obtain⟨W,a3,Y0,Wz⟩:=K4 w0 iT a8;refine⟨l4,_,_,_,U,U,P8.of<|b5 _ _ e4 nl.symm,a3,_,U,p,4,U,g5,zd,zd,λd0 G tv Z b6=>?_⟩;have ta:=((b3.same s4).trans b5).trans b6;have ee:=ta _ _ t0 pd.symm;have tL:=b2.trans ta;clear ta b3 b5 b6 g3 g5 s4 e4 n4 t0 s2 g2 b2 a3;refine⟨ee,[(Sum.inr Uj,.int ((W:Nat):Int)),(Sum.inr Uq,.int ((d0:Nat):Int))],U,by show 2<=15;decide,?_⟩;have mk:=λvb=>LW (.int ((W:Nat):Int)) vb (.int ((d0:Nat):Int));have g7:Qg (aB G d<|.dK<|fY [] [(Sum.inr Uj,.int ((W:Nat):Int)),(Sum.inr Uq,.int ((d0:Nat):Int))]) p:=let⟨x,y,z,e⟩:=Z;⟨x,y,z,eB e ee⟩;have b7:Ql p H (aB G d<|.dK<|fY [] [(Sum.inr Uj,.int ((W:Nat):Int)),(Sum.inr Uq,.int ((d0:Nat):Int))]):=λb o e nb=>by rw[al<|au e nd];exact tL b o e nb
  have t3:(aB G d<|.dK<|fY [] [(Sum.inr Uj,.int ((W:Nat):Int)),(Sum.inr Uq,.int ((d0:Nat):Int))]) d=_:=aa;generalize aB G d _=H7 at*;clear Z ee tL;refine N _ _ ?_;clear N D;refine put λD N=>?_;refine⟨_,U,p,3,U,g7,zd,zd,λc1 H8 XX g8 b8=>?_⟩;refine⟨_,_,U,U,_,U,p,61,U,g8,zd,zd,λc2 H9 XJ g9 b9=>?_⟩;refine⟨_,_,U,U,Qa,λYQ ZN=>?_⟩;generalize O:aB H9 YQ _=Yi;have WB:=(nw ZN O).1;have Zu:=(nw ZN O).2;clear O;have e3:=g9.ne ZN;refine⟨_,U,p,2,U,g9.same WB,zd,zd,λn' Yh a4 aG e9=>?_⟩;obtain⟨cl,a1,Zp,Wo⟩:=K5 c1 c2 a4 XX XJ;refine⟨YQ,_,_,_,U,U,P8.of<|e9 _ _ Zu e3.symm,a1,?_⟩;have WW:=((b8.trans b9).same WB).trans e9;have Y':=WW _ _ t3 pd.symm;obtain⟨ZO,ek,sa,w1,w2,w3⟩:=mk (.int ((cl:Nat):Int));have t7:fY [] [(Sum.inr Uj,.int ((W:Nat):Int)),(Sum.inr Uq,.int ((d0:Nat):Int))]=ZO:=ek;rw[t7]at Y';refine⟨_,U,d,_,U,QY.k (k:=kS Uo) Y' (by lia),?_⟩;have lk:(bh ZO (kS Uo)<|.int ((cl:Nat):Int)).length<=3:=by have:=ir ZO (kS Uo) (.int ((cl:Nat):Int));lia
  have ee:(aB Yh d<|.dK<|bh ZO (kS Uo)<|.int ((cl:Nat):Int)) d=_:=aa;have Z:Qg (aB Yh d<|.dK<|bh ZO (kS Uo)<|.int ((cl:Nat):Int)) p:=let⟨x,y,z,e⟩:=aG;⟨x,y,z,eB e Y'⟩;have b6:Ql p H (aB Yh d<|.dK<|bh ZO (kS Uo)<|.int ((cl:Nat):Int)):=λb o e nb=>by rw[al<|au e nd];exact(b7.trans WW) b o e nb
  generalize aB Yh d _=G at*;generalize bh ZO (kS Uo) (.int ((cl:Nat):Int))=R at*;have dH:=nd;clear Y' WW a1 aG e9 Zu WB ZN e3 g9 b9 g8 b8 t3 g7 b7 ek t7 mk nd;refine N _ _ ?_;clear N D
  ·skip
   refine⟨?_,?_⟩;rotate_left
   ·refine⟨_,U,p,4,U,Z,zd,zd,λa0 H7 nH g7 b7=>?_⟩;refine⟨_,_,U,U,_,U,p,4,U,g7,zd,zd,λb0 H8 ih g8 b8=>?_⟩;refine⟨Qa,λOb ol=>?_⟩;have tG:=b7.trans b8;have oL:=tG _ _ ee pd.symm;have ov:=b6.trans tG;have s9:=ag (o:=.lst [.int ((1+a0:Nat):Int),.int (b0:Nat)]) ol;exact⟨d,Ob,1+a0,b0,R,W,cl,d0,U,g8.same s9,ov.same s9,dH,pd,s9 _ _ oL,aa,g8.ne ol,by lia,by lia,by lia,lk,Y0,Wz,Zp,Wo,by lia,w1,w2,w3⟩
   clear Z b6 ee dH pd w1 w2 w3 lk a8 tv Y0 Wz Zp Wo;intro m H9 z;obtain⟨d,Ob,A,b,R,W,cl,dp,rfl,g9,tM,dH,pd,t4,emn,oc,ey,ev,eg,lk,Y0,Wz,Zp,Wo,Z2,w1,w2,w3⟩:=z;refine⟨?_,?_⟩
   ·clear emn g9 tM t4 oc;intro m H1 z;obtain⟨d,Ob,ln,A,b,M,R,W,cl,dp,⟨rfl,T1,ey,ev,eg,eh,Yk,Xd,Y0,Wz,Zp,Wo,Z2,_,k1,k2,k3⟩,eT⟩:=z;refine put λD N=>?_;refine⟨_,U,_,U,Ob,_,_,_,U,U,P8.of T1.emn,aZ,(A:Int),U,ln,_,U,P8.of T1.eln,λL tT=>?_⟩;rw[vX,pw];generalize O:aB H1 L _=H2;have s2:=(nw tT O).1;have aA:H2 L=some (.lst<|am<|M.take A):=(nw tT O).2;clear O;have T2:=T1.same s2;refine⟨_,U,d,_,U,QY.k (k:=kS Ul) T2.ed (by lia),?_⟩;have T3:=T2.put (bh R (kS Ul)<|.ref L);have aO:=eB (kv':=bh R (kS Ul) (.ref L)) aA T2.ed;generalize aB H2 d (.dK<|bh R (kS Ul)<|.ref L)=H3 at*;clear T2 aA s2 T1 tT;refine N _ _ ?_;clear N D;refine put λD N=>?_;refine⟨_,U,_,U,Ob,_,_,_,U,U,P8.of T3.emn,aZ,(A:Int),U,_,U,Ob,_,_,_,U,U,P8.of T3.emn,aZ,_,U,Ob,_,_,_,U,U,P8.of T3.emn,cF,_,_,U,U,((A+b:Nat):Int),U,ln,_,U,P8.of T3.eln,λY tx=>?_⟩;rw[GN _ A b (by rw[dc];lia),yO,pw];generalize O:aB H3 Y _=H4;have s4:=(nw tx O).1;have ab:H4 Y=some (.lst<|am<|(M.drop A).take b):=(nw tx O).2;clear O;have T4:=T3.same s4;have aS:=s4 _ _ aO;have l1:=ir R (kS Ul) (.ref L);refine⟨_,U,d,_,U,QY.k (k:=kS Up) T4.ed (by lia),?_⟩;have l2:=ir (bh R (kS Ul)<|.ref L) (kS Up) (.ref Y);have T5:=T4.put (bh (bh R (kS Ul)<|.ref L) (kS Up)<|.ref Y);have tf:=eB (kv':=bh (bh R (kS Ul)<|.ref L) (kS Up) (.ref Y)) aS T4.ed;have tc:=eB (kv':=bh (bh R (kS Ul)<|.ref L) (kS Up) (.ref Y)) ab T4.ed;generalize aB H4 d (.dK<|bh (bh R (kS Ul)<|.ref L) (kS Up)<|.ref Y)=H5 at*;have j1:bA (bh (bh R (kS Ul)<|.ref L) (kS Up)<|.ref Y) (kS Uj)=some (.int (W:Nat)):=by rw[bO zk,bO zk];exact k1
    have j2:bA (bh (bh R (kS Ul)<|.ref L) (kS Up)<|.ref Y) (kS Uo)=some (.int (cl:Nat)):=by rw[bO zk,bO zk];exact k2
    have j3:bA (bh (bh R (kS Ul)<|.ref L) (kS Up)<|.ref Y) (kS Uq)=some (.int (dp:Nat)):=by rw[bO zk,bO zk];exact k3
    have j4:bA (bh (bh R (kS Ul)<|.ref L) (kS Up)<|.ref Y) (kS Ul)=some (.ref L):=by rw[bO zk,iw]
    have j5:bA (bh (bh R (kS Ul)<|.ref L) (kS Up)<|.ref Y) (kS Up)=some (.ref Y):=by rw[iw]
    have nn:(bh (bh R (kS Ul)<|.ref L) (kS Up)<|.ref Y).length<=5:=by lia
    generalize bh (bh R (kS Ul)<|.ref L) (kS Up) (.ref Y)=tk at*;clear T4 T3 aS aO ab s4 l1 l2 k1 k2 k3 tx eT;refine N _ _ ?_;clear N D;refine⟨?_,?_⟩
    ·clear T5 tf tc j1 j2 j3 j4 j5 nn;intro m G z;obtain⟨d,Ob,ln,A,b,M,R,W,cl,dp,L,Y,gt,⟨rfl,T6,ey,ev,eg,eh,Yk,Xd,Y0,Wz,Zp,Wo,Z2,_,k1,k2,k3⟩,eT,k4,k5,k6,tp,tm,VP⟩:=z;refine put λD N=>?_;refine⟨Qa,λlk YA=>?_⟩;generalize O:aB G lk _=H7;have s7:=(nw YA O).1;have t8:=(nw YA O).2;clear O;have T7:=T6.same s7;have ea:=s7 _ _ tp;have et:=s7 _ _ tm;have n1:=au T6.emn YA;have n2:=au T6.eln YA;have n3:=au tp YA;have n4:=au tm YA;have n5:H lk=none:=GL T6.bb T6.g YA;have n6:p≠lk:=T6.g.ne YA;refine⟨_,U,d,_,U,QY.k (k:=kS UE) T7.ed (by lia),?_⟩;have tS:TL H p d Ob ln L Y lk A b W cl dp M (bh R (kS UE)<|.ref lk) gt (aB H7 d<|.dK<|bh R (kS UE)<|.ref lk):=
      ⟨T7.put _,by rw[bO zk];exact k1,by rw[bO zk];exact k2,by rw[bO zk];exact k3,by rw[bO zk];exact k4,by rw[bO zk];exact k5,by rw[bO zk];exact k6,by rw[iw],eB ea T7.ed,eB et T7.ed,n1,n2,n3,n4,n5,n6⟩
     have t9:=eB (kv':=bh R (kS UE) (.ref lk)) t8 T7.ed;generalize aB H7 d (.dK<|bh R (kS UE)<|.ref lk)=H8 at*;have a9:(bh R (kS UE)<|.ref lk).length<=7:=by have:=ir R (kS UE) (.ref lk);lia
     generalize bh R (kS UE) (.ref lk)=no at*;clear T7 T6 ea et tp tm s7 YA t8 k1 k2 k3 k4 k5 k6 eT;have I:=tS;have Z':=t9;generalize H8=H1 at*;generalize no=R at*;refine N _ _ ?_;clear N D;refine put λD N=>?_;refine⟨_,U,_,U,_,U,p,most,U,I.tn.g,by lia,by lia,λr H2 np g2 b2=>?_⟩;refine⟨_,_,U,U,?_⟩;have el:=I.but g2 b2;have ti:=b2 _ _ Z' I.pk.symm;have eN:yN (1+r) 2 3:=⟨by lia,by lia,U,U⟩;obtain⟨nk,ac⟩:∃nk:Nat,1+r=nk:=⟨_,U⟩;have av:(1:Int)+(r:Int)=(nk:Int):=by lia
     rw[ac]at eN;generalize H2=H3 at*;refine⟨p,nk,e_ (λx=>[V.ref p,V.int x]) av,el.tn.g,by have:=eN.2.1;lia,λeS H4 kz eT a6 a7 g4 b4 oe an=>?_⟩;have Xv:=el.but g4 b4;have ew:=b4 _ _ ti el.pk.symm;have YA:eS≠lk:=(au ti oe).symm;have nK:=eN.2.1;clear el I tS t9 ti Z' g2 b2 oe n1 n2 n3 n4 n5 n6;refine⟨eS,U,⟨_,P8.of an⟩,?_⟩;have nT:M.length=A+b+3:=eh;refine jC (K:=K) (a:=eS) (xs:=am kz) (λi m C=>∃(v8 v9 Wj VM:Option V)(us:VA)(Oc:List Kn),m=[some<|.ref p,some<|.int most,some<|.ref d,some<|.ref Ob,some<|.ref ln,v8,v9,Wj,VM]/\TL H p d Ob ln L Y lk A b W cl dp M R gt C/\C eS=some (.lst<|am kz)/\C lk=some (.lst us)/\Paired (RS lk C) us Oc/\Oc.map Kn.name=kz.take i/\∀x∈Oc,KL W (M.take A) ((M.drop A).take b) (M.drop<|A+b) 2 3 x/\lO x.dd=true) ⟨_,_,_,_,[],[],U,Xv,an,ew,.nil,U,λx hx=>by cases hx⟩ (λi m C _ O=>by obtain⟨_,_,_,_,_,_,_,_,e',_⟩:=O;exact P8.of e') ?_ ?_
     ·intro i x m H1 hx z;obtain⟨v8,v9,Wj,VM,us,Oc,rfl,I,en,Z',Od,Zl,ez⟩:=z;obtain⟨z,hz,rfl⟩:=xn hx;have nf:=Od.length;have nL:=(Mc.mp hz).1;have Zm:Oc.length=i:=by
       have:=e_ List.length Zl;rw[Me,Mp]at this;have:=(Mc.mp hz).1;lia
      refine putL λD1 N1=>?_;refine put λD N=>?_;refine⟨Qa,λJ eH=>?_⟩;generalize O:aB H1 J _=H2;have s2:=(nw eH O).1;have oP:=(nw eH O).2;clear O;refine N _ _ ?_;clear N D;refine put λD N=>?_;have aF:J≠lk:=(au Z' eH).symm;have eL:p≠J:=I.tn.g.ne eH;have g2:=I.tn.g.same s2;refine⟨_,U,p,4,U,g2,zd,zd,λj4 H3 nP g3 b3=>⟨_,U,by lia,by lia,?_⟩⟩;rw[show((j4:Int)).toNat=j4 from Nm j4];have ob:Ql p H1 H3:=(cH s2).trans b3;refine gm (lo:=0) (n:=j4) (λj m C=>∃(Wj VM:Option V)(fu:VA)(X:Vz),m=[some<|.ref p,some<|.int most,some<|.ref d,some<|.ref Ob,some<|.ref ln,some<|.str z,some<|.ref J,Wj,VM]/\Qg C p/\Ql p H1 C/\C J=some (.lst fu)/\Paired (Qp C) fu X/\X.map (·.1)=(M.drop<|A+b).take j/\∀f∈X,f.2∈ef) ⟨_,_,[],[],U,g3,ob,b3 _ _ oP eL.symm,.nil,U,λf hf=>by cases hf⟩ ?_ ?_
      ·intro j m H4 hj z;obtain⟨Wj,VM,fu,X,rfl,g4,b4,ec,Wn,es,WP⟩:=z;have nM:j<j4:=hj;have e0:((0:Int)+(j:Int))=(j:Int):=by lia
       rw[e0];have Xv:=I.but g4 b4;refine putL λD2 N2=>?_;refine put λD N=>?_;refine⟨Qa,λl5 n5=>?_⟩;generalize O:aB H4 l5 _=H5;have s5:=(nw n5 O).1;have e5:=(nw n5 O).2;clear O;have nc:p≠l5:=g4.ne n5;have tN:=Xv.same s5;refine⟨_,U,p,4,U,tN.tn.g,zd,zd,λsi G n9 Z b6=>?_⟩;obtain⟨tb,Xo⟩:=DY (i:=si) (by lia);refine⟨l5,_,_,_,U,U,P8.of<|b6 _ _ e5 nc.symm,aI tb,?_⟩;have tP:Ql p H4 G:=(cH s5).trans b6;generalize SE.getD si ""=s0 at tb Xo⊢;refine N _ _ ?_;clear N D;refine put λD N=>?_;refine⟨_,U,Qa,λl7 n7=>?_⟩;generalize O:aB G l7 _=op;have tA:=(nw n7 O).1;have oI:=(nw n7 O).2;clear O;have eF:=tP.same tA;have aK:=Z.same tA;clear tb s5 e5 n5 tN b6 Z tA n7 tP;rename_i nz;refine⟨(j:Int),s0,U,U,λcb=>?_⟩;obtain⟨sv,iR,Xt⟩:∃sv:Str,sv∈ef/\oH ([.str s0,.str "number"]:VA) (if cb=true then 1 else 0)=some (.str sv):=by
        cases cb with
        |false=>exact⟨s0,Xo,aI (j:=0) U⟩
        |true=>exact⟨"number",zk,aI (j:=1) U⟩
       refine⟨l7,_,_,_,U,U,P8.of oI,Xt,?_⟩;generalize op=G at*;have ei:=Xv.but aK eF;have Yg:=eF;have Z:=aK;have t5:=Yg _ _ ec eL.symm;have tg:Qi H4 G:=bK g4 Yg;have a5:A+b+j<M.length:=by lia
       refine N _ _ ?_;clear N D;refine⟨_,U,.inl ⟨U,_,P8.of t5⟩,_,U,_,U,Ob,_,_,_,U,U,P8.of ei.tn.emn,aZ,_,U,Ob,_,_,_,U,U,P8.of ei.tn.emn,cF,_,_,U,U,_,U,_,_,U,U,ln,_,_,_,U,U,P8.of ei.tn.eln,Ji a5,_,U,Qa,λt nt=>?_⟩;generalize O:aB G t _=H7;have s7:=(nw nt O).1;have e7:=(nw nt O).2;clear O;have g7:=Z.same s7;have t6:=s7 _ _ t5;have se:=Wn.length;have uE:X.length=j:=by
        have:=e_ List.length es;rw[Me,Mp,MY]at this;lia
       refine⟨J,_,_,U,U,t6,by lia,?_⟩;have kt:Qi H7 (aB H7 J<|.lst<|fu++[.ref t]):=λb' xs eb=>by
        rw[al]
        ·exact eb
        ·rintro rfl;rw[t6]at eb;cases eb
       have na:Qi H4 (aB H7 J<|.lst<|fu++[.ref t]):=λb' xs eb=>kt _ _ (s7 _ _<|tg _ _ eb);refine N2 _ _ ?_;refine⟨_,_,fu++[.ref t],X++[(M[A+b+j],sv)],U,?_,?_,aa,fF ⟨t,U,kt _ _ e7⟩<|bq (λ_ _ h=>Qp.kt2 na h) Wn,?_,?_⟩
       ·obtain⟨x,y,z',ex⟩:=g7;exact⟨x,y,z',by rw[al eL];exact ex⟩
       ·intro b' o eb nb;rw[al<|au eb eH];exact s7 _ _ ((b4.trans Yg) b' o eb nb)
       ·rw[Mq,es,MW,List.getElem?_drop,Mi a5];rfl
       ·intro f hf;rcases MC.mp hf with h|h
        ·exact WP f h
        ·rw[MJ.mp h];exact iR
      ·intro m H4 z;obtain⟨Wj,VM,fu,X,rfl,g4,b4,ec,Wn,es,WP⟩:=z;have Xv:=I.but g4 b4;have ew:=b4 _ _ Z' I.pk.symm;have uE:X.length=j4:=by
        have:=e_ List.length es;rw[Me,Mp,MY]at this;lia
       refine N _ _ ?_;clear N D;refine⟨_,U,d,_,U,bD Xv.tn.ed Xv.v7,.inl ⟨U,_,P8.of ew⟩,?_⟩;have o':Sk H4 d W (M.take A) ((M.drop A).take b):=⟨R,L,Y,Xv.tn.ed,Xv.v1,Xv.v4,Xv.v5,Xv.ep,Xv.em⟩;have o5:Lx H4 p d J W (M.take A) ((M.drop A).take b) X:=⟨g4,o',⟨fu,ec,Wn⟩,by lia,Y0,Wz,by rw[Mp];lia,by rw[Mp];lia,by rw[Mp];lia,λz hz=>Xd z<|M_<|M6 hz,λz hz=>Xd z<|M6 hz⟩;refine⟨_,U,_,U,_,U,_,U,_,U,_,U,p,3,U,g4,zd,zd,λch ng Yb o4 tF=>?_⟩;have a2:=o5.but o4 tF;refine⟨p,d,J,W,M.take A,(M.drop A).take b,X,ch,U,a2,by show ch<=2;lia,λv H5 dd g5 oT hv iv K'=>⟨Qa,λt nt=>?_⟩⟩;have b5:Ql p H4 H5:=tF.trans oT;have s6:=ag (o:=.tup [.str z,.ref J,v]) nt;have e6:(aB H5 t<|.tup [.str z,.ref J,v]) t=some (.tup [.str z,.ref J,v]):=aa;have Z:=g5.same s6;have tr:=s6 _ _ (b5 _ _ ew I.pk.symm);have Yg:Ql p H4 (aB H5 t<|.tup [.str z,.ref J,v]):=b5.same s6;have iK:=hv.kt (ak s6);generalize aB H5 t (.tup [V.str z,.ref J,v])=G at*;have ei:=Xv.but Z Yg;have tt:Ql p H1 G:=b4.trans Yg;refine⟨lk,_,_,U,U,tr,by lia,?_⟩;have kt:Qi G (aB G lk<|.lst<|us++[.ref t]):=λb' xs eb=>by
        rw[al]
        ·exact eb
        ·rintro rfl;rw[tr]at eb;cases eb
       have i':=bK I.tn.g tt;have tg:=bK g4 Yg;refine N1 _ _ ?_;refine⟨_,_,_,_,us++[.ref t],Oc++[⟨z,X,js (M.take A) ((M.drop A).take b) X dd,dd⟩],U,ei.app tr _,?_,aa,?_,?_,?_⟩
       ·rw[al YA];exact tt _ _ en (bJ I.tn.g en<|cM _)
       ·refine fF ⟨t,J,v,U,aF,kt _ _ e6,⟨fu,?_,bq (λ_ _ h=>Qp.kt2 kt<|Qp.kt2 tg h) Wn⟩,iK.kt kt⟩ (bq (λ_ _ h=>RS.kp (λb' xs eb=>kt _ _<|i' _ _ eb) (λx' YM nx YH ex J'=>by
         rw[al nx];exact wb (lk:=lk) I.tn.g tt x' YM nx YH ex J') h) Od)
        rw[al aF];exact Yg _ _ ec eL.symm
       ·rw[Mq,Zl,MW,hz];rfl
       ·intro x VZ;rcases MC.mp VZ with h|h
        ·exact ez x h
        ·rw[MJ.mp h];exact⟨⟨⟨j4,by lia,es⟩,WP,rf iv (by lia),U⟩,K'⟩
     ·intro m H1 z;obtain⟨v8,v9,Wj,VM,us,Oc,rfl,I,en,Z',Od,Zl,ez⟩:=z;rw[dc,MD]at Zl;have X':Oc.length=nk:=by
       have:=e_ List.length Zl;rw[Me]at this;lia
      have ow:=GR M A b;refine N _ _ ?_;clear N D;refine⟨_,U,q d H1 ⟨W,cl,dp,M.take A,(M.drop A).take b,gL ((M.drop A).take b) gt,Oc⟩ gt R L Y lk us (M.drop<|A+b) I.tn.g I.tn.bb ⟨I.tn.ed,I.v1,I.v2,I.v3,I.v4,I.v5,I.v6,I.v7,I.ep,I.em,Z',Od⟩ ?_ I.tn.nd a9 λx hx=>(ez x hx).2⟩;refine⟨Y0,Wz,Zp,Wo,Z2,?_,?_,?_,?_,?_,?_,?_,?_,U,?_,?_⟩
      ·show 1<=(M.take A).length;rw[Mp];lia
      ·show(M.take A).length<=4;rw[Mp];lia
      ·show((M.drop A).take b).length<=3;rw[Mp];lia
      ·rw[MY];lia
      ·show(M.take A++(M.drop A).take b++M.drop (A+b)).Nodup;rw[ow];exact Yk
      ·show ∀z∈M.take A++(M.drop A).take b++M.drop (A+b),de z;rw[ow];exact Xd
      ·show(Oc.map Kn.name).Nodup;rw[Zl];exact a6
      ·intro x VZ;exact a7 _ (by rw[<-Zl];exact MQ.mpr ⟨x,VZ,U⟩)
      ·intro g hg;have:=VP g hg;show g<((M.drop A).take b).length;rw[Mp,MY];lia
      ·refine⟨2,3,?_,λx hx=>(ez x hx).1⟩;show yN Oc.length 2 3;rw[X'];exact eN
    ·have o3:(if(b:Int)>1 then(b:Int)else 1)=((max 1 b:Nat):Int):=by split<;>lia
     refine⟨_,U,_,U,Ob,_,_,_,U,U,P8.of T5.emn,cF,_,_,U,p,max 1 b,e_ (λx=>[V.ref p,V.int x]) o3,T5.g,by lia,by lia,λgg G nD Z b6=>⟨Qa,λer a'=>?_⟩⟩;generalize O:aB G er _=H7;have s7:=(nw a' O).1;have e7:=(nw a' O).2;clear O;have nm:p≠er:=Z.ne a';have T7:=(T5.but Z b6).same s7;have ea:=s7 _ _ (b6 _ _ tf<|bJ T5.g tf<|cM _);have et:=s7 _ _ (b6 _ _ tc<|bJ T5.g tc<|cM _);have B':∀(H8:Hp)(gt:Option Nat),TN H p d Ob ln A b M tk H8->H8 L=some (.lst<|am<|M.take A)->H8 Y=some (.lst<|am<|(M.drop A).take b)->(∀g,gt=some g->g<b)->wc H p most [some<|.ref p,some<|.int most,some<|.ref d,some<|.ref Ob,some<|.ref ln,none,none,none,none] (aB H8 d<|.dK<|bh tk (kS UD)<|gV gt):=by
      intro H8 gt T8 e1 e2 hg;have l3:=ir tk (kS UD) (gV gt);exact⟨d,Ob,ln,A,b,M,_,W,cl,dp,L,Y,gt,⟨U,T8.put _,ey,ev,eg,eh,Yk,Xd,Y0,Wz,Zp,Wo,Z2,by lia,by rw[bO zk];exact j1,by rw[bO zk];exact j2,by rw[bO zk];exact j3⟩,by lia,by rw[bO zk];exact j4,by rw[bO zk];exact j5,by rw[iw],eB e1 T8.ed,eB e2 T8.ed,hg⟩
     refine⟨_,U,Ob,_,_,_,U,U,P8.of T7.emn,cF,_,_,U,U,_,U,bE (λh=>?_) λh=>?_⟩
     ·have ih:0<b:=by have:=i_ h;lia
      refine⟨_,U,p,2,U,T7.g,zd,zd,λr H8 n8 g8 b8=>⟨U,.inr ⟨_,U,?_⟩⟩⟩;have T8:=T7.but g8 b8;have aD:=b8 _ _ ea (bJ T7.g ea<|cM _);have aE:=b8 _ _ et (bJ T7.g et<|cM _);have e8:=b8 _ _ e7 nm.symm;by_cases h0:r=0
      ·subst h0;refine⟨er,_,1,_,U,U,P8.of e8,cF,_,U,d,_,U,QY.k (k:=kS UD) T8.ed (by lia),?_⟩;exact B' H8 (some gg) T8 aD aE λg e=>by cases e;lia
      ·have tv:decide (V.int (r:Nat)=V.int 0)=false:=c_ λe=>by
        have:=V.int.inj e;lia
       rw[tv];refine⟨er,_,0,_,U,U,P8.of e8,aZ,_,U,d,_,U,QY.k (k:=kS UD) T8.ed (by lia),?_⟩;exact B' H8 none T8 aD aE λg e=>by cases e
     ·refine .inr ⟨_,U,?_⟩;refine⟨er,_,0,_,U,U,P8.of e7,aZ,_,U,d,_,U,QY.k (k:=kS UD) T7.ed (by lia),?_⟩;exact B' H7 none T7 ea et λg e=>by cases e
   ·refine⟨_,U,_,U,Ob,_,_,_,U,U,P8.of emn,aZ,_,U,Ob,_,_,_,U,U,P8.of emn,cF,_,_,U,U,_,_,U,U,p,A+b+3,U,g9,by lia,λln Ha M eh Yk Xd ga ba sn eln=>?_⟩;exact⟨d,Ob,ln,A,b,M,R,W,cl,dp,⟨U,⟨ga,tM.trans ba,dH,pd,ba _ _ t4 pd.symm,ba _ _ emn oc.symm,eln⟩,ey,ev,eg,eh,Yk,Xd,Y0,Wz,Zp,Wo,Z2,by lia,w1,w2,w3⟩,lk⟩
end
end
def jY(c:Nat):Prop:=(97<=c/\c<=122)\/(48<=c/\c<=57)
def xt(h:jY c):TK.gU c=false:=by
 unfold jY at h;unfold TK.gU;simp;lia
def we(h:jY c):TK.dY c=false:=by
 unfold jY at h;unfold TK.dY;simp;omega
def xu(h:jY c)(r:Vy):TK.kJ (c::r)=0:=by
 have q:=we h;unfold jY at h;cases r with
 |nil=>rw[TK.fQ,q];rfl
 |cons d r=>
  rw[TK.ff,q,f_<|by simp;lia];rfl
def xw:∀t:Vy,(∀c∈t,jY c)->TK.run t=t.length
 |[],_=>rfl
 |c::r,h=>by
  have q:=h c Mf;rw[TK.cJ,xt q,xu q,f_ (by simp),xw r λd e=>h d<|Mn _ e,Mg];lia
def rh(z:t≠[])(h:∀c∈t,jY c):TK.Tok t:=by
 cases t with
 |nil=>exact absurd U z
 |cons c r=>
  have q:=h c Mf;have:=TK.lZ (r:=r) (xt q);have e:TK.one (c::r)=(c::r).length:=by
   unfold TK.one;rw[g_<|xu q r,xw _ h]
  rw[e,MD]at this;exact this
def iL(h:r≠[]):TK.jn sep (t::r)=t++(sep++TK.jn sep r):=by
 cases r with
 |nil=>exact absurd U h
 |cons u r=>rfl
def wf:∀{a b:List (Vy)},a≠[]->b≠[]->TK.jn sep (a++b)=TK.jn sep a++(sep++TK.jn sep b)
 |[],_,h,_=>absurd U h
 |[t],b,_,q=>iL q
 |t::u::r,b,_,q=>by
  show TK.jn sep (t::(u::r++b))=_;rw[iL (by simp),wf (by simp) q,iL (t:=t) (r:=u::r)<|by simp];simp
def xy:∀q:List (List<|Vy),(∀g∈q,g≠[])->TK.jn sep (q.map<|TK.jn sep)=TK.jn sep q.flatten
 |[],_=>rfl
 |[g],_=>by simp[TK.jn]
 |g::h::r,t=>by
  have I:=xy (sep:=sep) (h::r) (λx O=>t x<|Mn _ O);have e:(g::h::r).flatten=g++(h::r).flatten:=NV;rw[Mz,iL (by simp),I,e];have z:(h::r).flatten≠[]:=by
   have:=t h (by simp);simp[this]
  rw[wf (t g Mf) z]
def Qh.len(h:Qh z):(cp z).length<=8:=by
 have:=h.2.2.1;have e:z.length=(cp z).length:=by unfold cp;simp[Str.length]
 lia
def Qh.pos(h:Qh z):1<=(cp z).length:=by
 have:=h.2.1;have e:z.length=(cp z).length:=by unfold cp;simp[Str.length]
 lia
def K6:List (Vy):=[[40],[41],[123],[125],[91],[93],[44],[59],[61],[43],[45],[38],[124],[94],[60,60],[62,62],[60]]
structure QQ(z:Str):Prop where
 tok:TK.Tok (cp z)
 le:(cp z).length<=8
 cl:(∀c∈cp z,jY c)\/cp z∈K6
def xz:Vx:=["(",")","{","}","[","]",",",";","=","+","-","&","|","^","<<",">>","<"]
def QQ.name(h:Qh z):QQ z:=by
 refine⟨rh (λe=>?_) λc q=>.inl<|h.2.2.2 c q,h.len,.inl λc q=>.inl<|h.2.2.2 c q⟩;have:=h.pos;rw[e]at this;simp at this
section
variable{n:Nat}
def QQ.num(h:n<100000000):QQ (toString (n:Int):Str):=by
 have e:cp (toString (n:Int):Str)=dg n:=by rw[jm,gM]
 refine⟨?_,?_,.inl λc q=>.inr<|nB n c<|by rw[e]at q;exact q⟩
 ·rw[e];refine rh (λe=>?_) (λc q=>.inr<|nB n c q);have:=(ip n).1;rw[e]at this;simp at this
 ·rw[e];exact(ip n).2 8 zd h
def QR:Vx:=[UI,Uo,Uq,Ul,Up,UD,Uv,UJ,Uh,Uk,"number",U3,"set",Vf,Vb,UW,U4,Uz,UN,UO,Ut]
def Be:(QR.all λz=>decide (cp z≠[])&&decide ((cp z).length<=8)&&(cp z).all λc=>decide (97<=c)&&decide (c<=122))=true:=by decide +kernel
def QQ.word(h:z∈QR):QQ z:=by
 have:=MT.mp Be z h;simp only[Nh,G_,MT]at this;exact⟨rh this.1.1 λc q=>.inl<|this.2 c q,this.1.2,.inl λc q=>.inl<|this.2 c q⟩
def K7(c:Nat)(h:TK.gU c=false)(t:TK.dY c=true):TK.Tok [c]:=by
 have:=TK.lZ (c:=c) (r:=[]) h;have e:TK.one [c]=1:=by
  unfold TK.one;rw[TK.fQ,g_ t];rfl
 rw[e]at this;exact this
def QQ.sign(h:z∈xz):QQ z:=by
 have e:xz=([[40],[41],[123],[125],[91],[93],[44],[59],[61],[43],[45],[38],[124],[94],[60,60],[62,62],[60]]:List (Vy)).map S:=by decide +kernel
 rw[e]at h;obtain⟨t,q,rfl⟩:=MQ.mp h;have e2:TK.Tok [60,60]:=by
  have:=TK.lZ (c:=60) (r:=[60]) rfl;exact this
 have O:TK.Tok [62,62]:=by
  have:=TK.lZ (c:=62) (r:=[62]) rfl;exact this
 simp only[Mo,Mu,l_]at q;rcases q with rfl|rfl|rfl|rfl|rfl|rfl|rfl|rfl|rfl|rfl|rfl|rfl|rfl|rfl|rfl|rfl|rfl
 all_goals first
  |exact⟨e2,by rw[gM];decide,.inr<|by rw[gM];decide⟩
  |exact⟨O,by rw[gM];decide,.inr<|by rw[gM];decide⟩
  |exact⟨K7 _ U U,by rw[gM];decide,.inr<|by rw[gM];decide⟩
def ub(h:o∈dG):o∈xz:=by
 have:∀z∈dG,z∈xz:=by decide +kernel
 exact this o h
def K8(q:w<=24)(h:n<2^w):n<100000000:=by
 have:=MH (n:=2) zd q;have e:2^24=16777216:=by decide
 lia
def gT{w:Nat}(O:w<=24):∀{m:Nat}{x:Ex},c9 w m x->∀z∈dj x,QQ z
 |0,.num n,h,z,q=>by rw[MJ.mp q];exact .num (K8 O h)
 |_+1,.num n,h,z,q=>by rw[MJ.mp q];exact .num (K8 O h)
 |0,.nm y,h,z,q=>by rw[MJ.mp q];exact .name h
 |_+1,.nm y,h,z,q=>by rw[MJ.mp q];exact .name h
 |0,.cell _,h,_,_=>absurd h (by simp[c9])
 |m+1,.cell e,h,z,q=>by
  simp only[dj,Mo,MC,Mu,l_]at q;rcases q with rfl|q|rfl
  ·exact .sign zk
  ·exact gT O (m:=m) (x:=e) h z q
  ·exact .sign zk
 |0,.two _ _ _,h,_,_=>absurd h (by simp[c9])
 |m+1,.two o x y,h,z,q=>by
  simp only[dj,Mo,MC,Mu,l_]at q;rcases q with rfl|q|rfl|q|rfl
  ·exact .sign zk
  ·exact gT O (m:=m) (x:=x) h.2.1 z q
  ·exact .sign (ub h.1)
  ·exact gT O (m:=m) (x:=y) h.2.2 z q
  ·exact .sign zk
def Fk(O:w<=24)(h:kZ w g):∀z∈jN g,QQ z:=by
 intro z q;cases g with
 |cell a e=>
  simp only[jN,Mo,MC,Mu,l_]at q;rcases q with rfl|q|rfl|rfl|q|rfl
  ·exact .sign zk
  ·exact gT O h.1 z q
  ·exact .sign zk
  ·exact .sign zk
  ·exact gT O h.2 z q
  ·exact .sign zk
 |nm y e=>
  simp only[jN,Mo,MC,Mu,l_]at q;rcases q with rfl|rfl|q|rfl
  ·exact .name h.1
  ·exact .sign zk
  ·exact gT O h.2 z q
  ·exact .sign zk
def Fl(h:qA e):∀z∈gX e,QQ z:=by
 intro z q;cases e with
 |w0 s=>
  rw[MJ.mp q];have:∀y∈([(UJ:Str),(UN:Str),(UO:Str)]:Vx),y∈QR:=by decide +kernel
  exact .word (this _ h)
 |w1 s y=>
  simp only[gX,Mo,Mu,l_]at q;rcases q with rfl|rfl
  ·have:∀y∈([(U4:Str),(Uz:Str),(Ut:Str)]:Vx),y∈QR:=by decide +kernel
   exact .word (this _ h.1)
  ·exact .name h.2.1
def xA(O:w<=24):∀{s:List Gs},(∀g∈s,kZ w g)->∀z∈bS s,QQ z
 |[],_,z,q=>by cases q
 |g::r,h,z,q=>by
  simp only[bS,Mo,MC]at q;rcases q with rfl|q|q
  ·exact .word zk
  ·exact Fk O (h g Mf) z q
  ·exact xA O (λx I=>h x<|Mn _ I) z q
def pA(O:w<=24):∀{m:Nat}{b:Bd},fE w m b->∀z∈dz b,QQ z
 |m,.leaf s e,h,z,q=>by
  have o:∀g∈s,kZ w g:=by cases m<;>exact h.2.1
  have I:qA e:=by cases m<;>exact h.2.2.2
  simp only[dz,Mo,MC,Mu,l_]at q;rcases q with rfl|q|q|rfl
  ·exact .sign zk
  ·exact xA O o z q
  ·exact Fl I z q
  ·exact .sign zk
 |0,.ite _ _ _ _,h,_,_=>absurd h (by simp[fE])
 |m+1,.ite t y a b,h,z,q=>by
  simp only[dz,Mo,MC,Mu,l_]at q;rcases q with rfl|rfl|q|q|rfl|q|rfl
  ·exact .sign zk
  ·exact .word zk
  ·cases t with
   |true=>
    simp at q;rcases q with rfl|rfl
    ·exact .word zk
    ·exact .name h.1
   |false=>
    simp at q;subst q;exact .name h.1
  ·exact pA O (m:=m) h.2.1 z q
  ·exact .word zk
  ·exact pA O (m:=m) h.2.2 z q
  ·exact .sign zk
def mD:∀{m:Nat}{x:Ex},c9 w m x->c9 w (m+1) x
 |0,.num _,h=>h
 |_+1,.num _,h=>h
 |0,.nm _,h=>h
 |_+1,.nm _,h=>h
 |0,.cell _,h=>absurd h (by simp[c9])
 |m+1,.cell e,h=>mD (m:=m) (x:=e) h
 |0,.two _ _ _,h=>absurd h (by simp[c9])
 |m+1,.two o x y,h=>⟨h.1,mD (m:=m) (x:=x) h.2.1,mD (m:=m) (x:=y) h.2.2⟩
def mE(h:c9 w m x)(q:m<=n):c9 w n x:=by
 induction q with
 |refl=>exact h
 |step _ z=>exact mD z
structure Jk(ps ms:Vx)(fs:Vz):Prop where
 p:∀z∈ps,de z
 m:∀z∈ms,de z
 f:∀f∈fs,de f.1
def gh(h:e[j]?=some (z,st)):Bb e j=z:=by
 unfold Bb;rw[MI,h];rfl
def cO(O:∀z∈L,de z)(I:∀f∈e,de f.1)(h:cg L st e b n):de (fj L e b n):=by
 unfold cg at h;unfold fj;cases b with
 |true=>
  rw[g_ rfl]at h⊢;obtain⟨z,q⟩:=h;rw[gh q];exact I _ (Mr q)
 |false=>
  rw[f_ zd]at h⊢;rw[MI,Mi h];exact O _ (MX h)
def eG(G:Jk d r i):∀{m:Nat}{e:Ed},aJ W d r i m e->c9 W m (dA d r i e)
 |0,.num _,h=>by simpa[aJ,c9,dA]using h
 |_+1,.num _,h=>by simpa[aJ,c9,dA]using h
 |m,.fld j,h=>by
  have t:∃z:Str,i[j]?=some (z,("number":Str)):=by cases m<;>simpa[aJ]using h
  obtain⟨z,q⟩:=t;have:Qh (Bb i j):=by rw[gh q];exact(G.f _<|Mr q).1
  cases m<;>exact this
 |m,.pl b n,h=>by
  have t:cg d Uh i b n:=by cases m<;>simpa[aJ]using h
  have:=(cO G.p G.f t).1;cases m<;>exact this
 |m,.mk b n,h=>by
  have t:cg r Uk i b n:=by cases m<;>simpa[aJ]using h
  have:=(cO G.m G.f t).1;cases m<;>exact this
 |0,.cell _,h=>absurd h (by simp[aJ])
 |m+1,.cell e,h=>eG G (m:=m) (e:=e) (by simpa[aJ]using h)
 |0,.two _ _ _,h=>absurd h (by simp[aJ])
 |m+1,.two o x y,h=>by
  have t:o∈dG/\aJ W d r i m x/\aJ W d r i m y:=by simpa[aJ]using h
  exact⟨t.1,eG G (m:=m) t.2.1,eG G (m:=m) t.2.2⟩
def Fo(G:Jk i o t)(q:m<=3)(h:gf W i o t m g):kZ W (dm i o t g):=by
 cases g with
 |cell a e=>exact⟨mE (eG G h.1) zo,mE (eG G h.2) q⟩
 |pl b n e=>exact⟨(cO G.p G.f h.1).1,mE (eG G h.2) q⟩
 |mk b n e=>exact⟨(cO G.m G.f h.1).1,mE (eG G h.2) q⟩
def Fp(O:∀f∈t,de f.1)(h:nZ t e):qA (gW t e):=by
 cases e with
 |w0 s=>exact h
 |fault z=>exact⟨zk,h.1,λ_=>h.2⟩
 |go s j=>
  obtain⟨o,z,q⟩:=h;refine⟨?_,?_,λe=>?_⟩
  ·have:∀y∈([U4,Uz]:Vx),y∈([(U4:Str),(Uz:Str),(Ut:Str)]:Vx):=by decide +kernel
   exact this s o
  ·rw[gh q];exact(O _<|Mr q).1
  ·rw[gh q];exact(O _<|Mr q).2
def GS(o t:Vx)(e:Vz)(g:Sd):(dm o t e g).isCell=g.isCell:=by cases g<;>rfl
def uc:∀{l:List α},(l.filter f).length<=1->∀i j:Nat,∀g h,l[i]?=some g->l[j]?=some h->f g=true->f h=true->i=j
 |[],_,i,j,g,h,e,_,_,_=>by simp at e
 |x::r,t,0,0,_,_,_,_,_,_=>rfl
 |x::r,t,0,j+1,g,h,e1,e2,o,d=>by
  simp at e1 e2;subst e1;rw[Nv o,Mg]at t;have:h∈r.filter f:=NB.mpr ⟨Mr e2,d⟩;have:=List.length_pos_of_mem this;lia
 |x::r,t,i+1,0,g,h,e1,e2,o,d=>by
  simp at e1 e2;subst e2;rw[Nv d,Mg]at t;have:g∈r.filter f:=NB.mpr ⟨Mr e1,o⟩;have:=List.length_pos_of_mem this;lia
 |x::r,t,i+1,j+1,g,h,e1,e2,o,d=>by
  have q:(r.filter f).length<=1:=by
   by_cases z:f x=true
   ·rw[Nv z,Mg]at t;lia
   ·rw[NP z]at t;exact t
  have:=uc q i j g h (by simpa using e1) (by simpa using e2) o d;lia
def pB(G:Jk v r o)(q:m<=3):∀{c n:Nat}{d:Dd},eA W v r o m c d->c<=n->fE W n (js v r o d)
 |c,n,.leaf s e,h,_=>by
  have R:s.length<=4/\(s.filter Sd.isCell).length<=1/\(∀g∈s,gf W v r o m g)/\nZ o e:=by cases c<;>exact h
  have J:(s.map<|dm v r o).length<=4/\(∀g∈s.map (dm v r o),kZ W g)/\(∀i j:Nat,∀g h,(s.map<|dm v r o)[i]?=some g->(s.map<|dm v r o)[j]?=some h->g.isCell=true->h.isCell=true->i=j)/\qA (gW o e):=by
   refine⟨by rw[Me];exact R.1,λg M=>?_,λi j g h e1 e2 N C=>?_,Fp G.f R.2.2.2⟩
   ·obtain⟨I,O,rfl⟩:=MQ.mp M;exact Fo G q (R.2.2.1 I O)
   ·rw[Mt]at e1 e2;cases f1:s[i]? with
    |none=>rw[f1]at e1;cases e1
    |some D=>
     cases f2:s[j]? with
     |none=>rw[f2]at e2;cases e2
     |some L=>
      rw[f1]at e1;rw[f2]at e2;cases e1;cases e2;rw[GS]at N C;exact uc R.2.1 i j D L f1 f2 N C
  cases n<;>exact J
 |0,_,.ite _ _ _,h,_=>absurd h (by simp[eA])
 |c+1,0,.ite _ _ _,_,Z=>by lia
 |c+1,n+1,.ite t y z,h,Z=>by
  obtain⟨N,C,Y⟩:=h;refine⟨?_,pB G q (c:=c) (n:=n) C zo,pB G q (c:=c) (n:=n) Y zo⟩;cases t with
  |top b n=>exact(cO G.p G.f N).1
  |pl b n=>exact(cO G.p G.f N).1
  |mk b n=>exact(cO G.m G.f N).1
end
def df(z:Str):ar [z]=cp z:=rfl
def bF(h:r≠[]):ar (z::r)=cp z++(32::ar r):=by
 unfold ar;rw[Mz,iL<|by simpa using h];rfl
def eX(q:a≠[])(z:b≠[]):ar (a++b)=ar a++(32::ar b):=by
 unfold ar;rw[Mq,wf (by simpa using q)<|by simpa using z];rfl
def gz(q:List (Vx))(h:∀g∈q,g≠[]):TK.jn [32] (q.map ar)=ar q.flatten:=by
 have:=xy (sep:=[32]) (q.map λg=>g.map cp) (λg I=>by
  obtain⟨O,z,rfl⟩:=MQ.mp I;simpa using h O z)
 unfold ar;rw[M8]at this;rw[List.map_flatten];exact this
def bT(h:∀z∈zs,QQ z):(ar zs).length<=9*zs.length:=by
 have I:=jp 8 (zs.map cp) λt q=>by
  obtain⟨z,O,rfl⟩:=MQ.mp q;exact(h z O).le
 have D:=vW [32] (zs.map cp);rw[Me]at*;simp only[Mg,Mv]at*;unfold ar;lia
def og(x:Ex):dj x≠[]:=by cases x<;>simp[dj]
def D0:(("[ ":Str)=S [91,32])/\((" ]":Str)=S [32,93]):=by decide +kernel
def pC(l:Vx)(h:l≠[]):[91,32]++ar l++[32,93]=ar (("[":Str)::(l++[("]":Str)])):=by
 rw[bF (by simp),eX h (by simp),df];have e1:cp ("[":Str)=[91]:=by decide +kernel
 have e2:cp ("]":Str)=[93]:=by decide +kernel
 rw[e1,e2];simp
def Bf(o:Str)(a b:Vx)(z:a≠[])(O:b≠[]):TK.jn [32] [cp "(",ar a,cp o,ar b,cp ")"]=ar (("(":Str)::(a++o::(b++[(")":Str)]))):=by
 have:=gz [[("(":Str)],a,[o],b,[(")":Str)]] (by
  intro g q;simp only[Mo,Mu,l_]at q;rcases q with rfl|rfl|rfl|rfl|rfl
  ·simp
  ·exact z
  ·simp
  ·exact O
  ·simp)
 have e:([[("(":Str)],a,[o],b,[(")":Str)]]:List (Vx)).flatten=(("(":Str)::(a++o::(b++[(")":Str)]))):=by simp
 rw[e]at this;exact this
structure Tx(H:Hp)(d lf:Vr)(W:Nat)(ps ms:Vx)(fs:Vz):Prop where
 t:Sk H d W ps ms
 f:RK H lf fs
 w24:W<=24
 G:Jk ps ms fs
def Tx.same(h:Tx H d i W m r o)(s:P4 H e):Tx e d i W m r o:=⟨h.t.same s,h.f.same s,h.w24,h.G⟩
inductive xB(vs:VA)(H:Hp)(Q:VK)(o:XK):Prop
 |mk(v l t L e st:_)(b:Bool)(n:Nat):vs=[v,.ref l,.ref t]->R1 H b n v->H l=some (.lst<|am L)->RK H t e->cg L st e b n->Q (.str<|fj L e b n) H->xB vs H Q o
inductive Bg(m:Nat)(vs:VA)(H:Hp)(Q:VK):Prop
 |mk(v d f W i o t e:_):vs=[v,.ref d,.ref f]->QJ H e v->Tx H d f W i o t->m<=3->aJ W i o t m e->(∀r,P4 H r->Q (.str<|S<|ar<|dj<|dA i o t e) r)->Bg m vs H Q
def xC :Nat->Sp
 |0=>li
 |m+1=>λvs H Q _=>Bg m vs H Q
variable{n:Nat}
def Bh{H:Hp}{O:Vr}{o:Vz}{z st:Str}(h:RK H O o)(e:o[n]?=some (z,st)):∃t q,H O=some (.lst t)/\t[n]?=some (.ref q)/\H q=some (.tup [.str z,.str st]):=by
 obtain⟨t,e1,D⟩:=h;obtain⟨u,L,q,rfl,I⟩:=lN D e;exact⟨t,q,e1,L,I⟩
section
def Jl:ax [UP,UA,Uf] [UP,UA,Uf] (aj nq):=cP zk
variable{r:Vw}{f:Vr}
def GT(F:Qj K "_law_sel_text" "_law_sel_text" nq f r):P7 P w K i e ce 1 f r [UP,UA,Uf] xB:=by
 have ZZ:=Jl
 walk_at "o"
 ·obtain⟨v,l,t,L,o,st,b,n,rfl,⟨D,rfl,I⟩,Z,J,O,q⟩:=h;refine⟨_,ae (aP (bY aR (cB (pv 0) af) ah) (ai<|ao<|eZ (pv 1)<|cB (pv 0) af) ay)
   (ai<|ao<|cB (eZ (pv 2)<|cB (pv 0) af) af),?_⟩
  refine⟨_,U,D,_,_,_,U,U,P5.of I,aZ,U,_,U,?_⟩;unfold cg at O;unfold fj at q;cases b with
  |true=>
   rw[g_ rfl]at O q;obtain⟨z,Y⟩:=O;rw[gh Y]at q;obtain⟨d,pf,e1,e2,G⟩:=Bh J Y;refine aY zk ⟨_,U,_,U,D,_,_,_,U,U,P5.of I,cF,t,_,_,_,U,U,P8.of e1,aI e2,pf,_,_,_,U,U,P5.of G,aZ,q⟩
  |false=>
   rw[f_ zd]at O q;rw[MI,Mi O]at q;refine bx (b_ U) ⟨_,U,_,U,D,_,_,_,U,U,P5.of I,cF,l,_,_,_,U,U,P8.of Z,aI (v:=.str L[n]) (by unfold am;rw[Mt,Mi O];rfl),q⟩
def Jm:ax [Vi,Ug,Uf] [Vi,Ug,Uf] (aj kR):=cP zk
def D4:∀o∈dG,o≠("number":Str)/\o≠(U7:Str)/\o≠(Uh:Str)/\o≠(Uk:Str)/\o≠("cell":Str):=by decide +kernel
def rj{n m:Nat}(F:Qj K "_law_expr_text" "_law_expr_text" kR f r)(B:Bl mg)(ST:Fn P w K mg M "_law_sel_text" 1 [UP,UA,Uf] xB)(EX:Fn P w K mg M "_law_expr_text" n [Vi,Ug,Uf] (xC m))(hn:1<=n):P7 P w K mg M ce (n+1) f r [Vi,Ug,Uf] (xC<|m+1):=by
 have ZZ:=Jm
 walk_at "o"
 ·obtain⟨v,d,Z,W,C,R,N,e,rfl,J,I,ZU,L,q⟩:=h;have hu:=eE hr;have N8:P9 1 _:=hr.mono zo;have sz:(100000:Nat)<=sizeLine:=by decide
  have et:=eG I.G L;have X':=bT (gT I.w24 et);have ew:=dD et;have eh:2^(m+2)<=32:=MP (MH zd (by lia:m+2<=5)) zd;refine⟨_,ae (aP (bY aR (cB (pv 0) af) ah) (ai<|ao<|aU fe (by rfl) B.str eP<|aV<|cB (pv 0) af) ay)
   (ae (aP (bY aR (cB (pv 0) af) ah) (ai<|ao<|cB (eZ (pv 2)<|cB (pv 0) af) af) ay)
   (ae (aP (PW.pt<|fL (bY aR (cB (pv 0) af) ah)<|dU<|bY aR (cB (pv 0) af) ah)
    (ai<|ao<|ap ST N8 U<|du (cB (pv 0) af) (bv hu (pv 1)<|az aH (cB (pv 0) af) ah)<|pv 2) ay)
   (ae (aP (bY aR (cB (pv 0) af) ah) (ai<|ao<|az aH (az aH ah<|ap EX hr U<|du (cB (pv 0) af) (pv 1)<|pv 2) ah) ay)
   (ai<|ao<|cx M5 Na M9 fg ah<|aV<|aM<|HK ah (ap EX hr U<|du (cB (pv 0) af) (pv 1)<|pv 2) (cB (pv 0) af) (ap EX hr U<|du (cB (pv 0) af) (pv 1)<|pv 2) ah)))),?_⟩
  have es:∀(st:Str)(p:Vr)(u:V)(b:Bool)(i:Nat),(st=Uh\/st=Uk)->H p=some (.tup [.str st,u])->R1 H b i u->cg (gy C R st) st N b i->(∀H',P4 H H'->Q (.str<|fj (gy C R st) N b i) H')->∃l,QE H d (.str<|st++"s") (some<|.ref l)/\H l=some (.lst<|am<|gy C R st):=λst p u b i P' _ _ _ _=>jr I.t P';cases e with
  |num i=>
   obtain⟨p,rfl,O⟩:=J;have hi:i<2^W:=by cases m<;>simpa[aJ]using L
   have ee:i<2^25:=by have:=K8 I.w24 hi;have:2^W<=2^24:=MH zd I.w24;lia
   refine⟨_,U,p,_,_,_,U,U,P5.of O,aZ,U,_,U,bx (b_ U) ?_⟩;refine⟨_,U,p,_,_,_,U,U,P5.of O,cF,_,U,iJ ee,?_⟩;have:=q H (P4.refl _);have e1:ar (dj<|dA C R N<|.num i)=cp (toString (i:Int):Str):=rfl;rw[e1,gK]at this;exact this
  |fld j=>
   obtain⟨p,rfl,O⟩:=J;have X:∃z:Str,N[j]?=some (z,("number":Str)):=by cases m<;>simpa[aJ]using L
   obtain⟨z,hz⟩:=X;obtain⟨us,pf,e1,e2,e3⟩:=Bh I.f hz;refine⟨_,U,p,_,_,_,U,U,P5.of O,aZ,U,_,U,aY zk ?_⟩;refine⟨_,U,p,_,_,_,U,U,P5.of O,aZ,U,_,U,bx (b_ U) ?_⟩;refine⟨_,U,_,U,p,_,_,_,U,U,P5.of O,cF,Z,_,_,_,U,U,P8.of e1,aI e2,pf,_,_,_,U,U,P5.of e3,aZ,?_⟩;have:=q H (P4.refl _);have e4:ar (dj<|dA C R N<|.fld j)=cp (Bb N j):=rfl;rw[e4,gK,gh hz]at this;exact this
  |pl b i=>
   obtain⟨p,u,rfl,O,hs⟩:=J;have X:cg C Uh N b i:=by cases m<;>simpa[aJ]using L
   refine⟨_,U,p,_,_,_,U,U,P5.of O,aZ,U,_,U,aY zk ?_⟩;refine⟨_,U,p,_,_,_,U,U,P5.of O,aZ,U,_,U,aY zk ?_⟩;refine⟨_,U,p,_,_,_,U,U,P5.of O,aZ,U,_,U,bx (b_ U)<|kG ?_⟩;obtain⟨l,dg,el⟩:=jr I.t (.inl U);refine⟨_,U,p,_,_,_,U,U,P5.of O,cF,_,U,_,U,p,_,_,_,U,U,P5.of O,aZ,_,_,U,U,zk,d,_,U,dg,_,U,u,l,Z,_,N,Uh,b,i,U,hs,el,I.f,by rw[ci];exact X,?_⟩;have:=q H (P4.refl _);have e4:ar (dj<|dA C R N<|.pl b i)=cp (fj C N b i):=rfl;rw[e4,gK]at this;rw[ci];exact this
  |mk b i=>
   obtain⟨p,u,rfl,O,hs⟩:=J;have X:cg R Uk N b i:=by cases m<;>simpa[aJ]using L
   refine⟨_,U,p,_,_,_,U,U,P5.of O,aZ,U,_,U,aY zk ?_⟩;refine⟨_,U,p,_,_,_,U,U,P5.of O,aZ,U,_,U,aY zk ?_⟩;refine⟨_,U,p,_,_,_,U,U,P5.of O,aZ,U,_,U,aY zk ?_⟩;refine⟨_,U,p,_,_,_,U,U,P5.of O,aZ,U,_,U,bx (b_ U) ?_⟩;obtain⟨l,dg,el⟩:=jr I.t (.inr U);refine⟨_,U,p,_,_,_,U,U,P5.of O,cF,_,U,_,U,p,_,_,_,U,U,P5.of O,aZ,_,_,U,U,zk,d,_,U,dg,_,U,u,l,Z,_,N,Uk,b,i,U,hs,el,I.f,by rw[dI];exact X,?_⟩;have:=q H (P4.refl _);have e4:ar (dj<|dA C R N<|.mk b i)=cp (fj R N b i):=rfl;rw[e4,gK]at this;rw[dI];exact this
  |cell e=>
   obtain⟨p,u,rfl,O,Zg⟩:=J;cases m with
   |zero=>simp[aJ]at L
   |succ m=>
    have D:aJ W C R N m e:=by simpa[aJ]using L
    have ei:=bT (gT I.w24<|eG I.G D);have Zk:=dD (eG I.G D);have ea:2^(m+2)<=32:=MP (MH zd (by lia:m+2<=5)) zd;refine⟨_,U,p,_,_,_,U,U,P5.of O,aZ,U,_,U,aY zk ?_⟩;refine⟨_,U,p,_,_,_,U,U,P5.of O,aZ,U,_,U,aY zk ?_⟩;refine⟨_,U,p,_,_,_,U,U,P5.of O,aZ,U,_,U,aY zk ?_⟩;refine⟨_,U,p,_,_,_,U,U,P5.of O,aZ,U,_,U,aY zk ?_⟩;refine⟨_,U,p,_,_,_,U,U,P5.of O,aZ,U,_,U,bx (b_ U) ?_⟩;refine⟨_,U,p,_,_,_,U,U,P5.of O,cF,_,U,_,U,u,d,Z,W,C,R,N,e,U,Zg,I,zo,D,λH1 Y=>?_⟩;refine⟨_,_,e_ V.str D0.1,U,by rw[aQ,aQ];simp;lia,?_⟩;rw[cE];refine⟨_,_,U,e_ V.str D0.2,by rw[aQ,aQ];simp;lia,?_⟩;rw[cE];have:=q H1 Y;have e4:ar (dj<|dA C R N<|.cell e)=[91,32]++ar (dj<|dA C R N e)++[32,93]:=(pC _<|og _).symm;rw[e4]at this;exact this
  |two o x y=>
   obtain⟨p,u,t,rfl,O,en,ZS⟩:=J;cases m with
   |zero=>simp[aJ]at L
   |succ m=>
    have D:o∈dG/\aJ W C R N m x/\aJ W C R N m y:=by simpa[aJ]using L
    obtain⟨o1,o2,o3,o4,o5⟩:=D4 o D.1;have ne:∀z:Str,o≠z->decide (V.str o=V.str z)=false:=λz h=>c_ λe=>h (V.str.inj e);have ei:=bT (gT I.w24<|eG I.G D.2.1);have Zk:=dD (eG I.G D.2.1);have er:=bT (gT I.w24<|eG I.G D.2.2);have ed:=dD (eG I.G D.2.2);have ea:2^(m+2)<=32:=MP (MH zd (by lia:m+2<=5)) zd;have ec:(cp o).length<=8:=(QQ.sign<|ub D.1).le;refine⟨_,U,p,_,_,_,U,U,P5.of O,aZ,U,_,U,aY (ne _ o1) ?_⟩;refine⟨_,U,p,_,_,_,U,U,P5.of O,aZ,U,_,U,aY (ne _ o2) ?_⟩;refine⟨_,U,p,_,_,_,U,U,P5.of O,aZ,U,_,U,aY (ne _ o3) ?_⟩;refine⟨_,U,p,_,_,_,U,U,P5.of O,aZ,U,_,U,aY (ne _ o4) ?_⟩;refine⟨_,U,p,_,_,_,U,U,P5.of O,aZ,U,_,U,aY (ne _ o5) ?_⟩;refine⟨U,_,U,p,_,_,_,U,U,P5.of O,cF,_,U,_,U,u,d,Z,W,C,R,N,x,U,en,I,zo,D.2.1,λH1 Y=>?_⟩;refine⟨_,U,p,_,_,_,U,U,P5.of<|Y _ _ O,aZ,_,U,p,_,_,_,U,U,P5.of<|Y _ _ O,iW,_,U,_,U,t,d,Z,W,C,R,N,y,U,ZS.kt<|ak Y,I.same Y,zo,D.2.2,λH2 s2=>?_⟩;refine⟨Qa,λl3 n3=>?_⟩;have s3:=ag (o:=.lst [.str "(",.str<|S<|ar<|dj<|dA C R N x,.str o,.str<|S<|ar<|dj<|dA C R N y,.str ")"]) n3;have e3:(aB H2 l3<|.lst [.str "(",.str<|S<|ar<|dj<|dA C R N x,.str o,.str<|S<|ar<|dj<|dA C R N y,.str ")"]) l3=some (.lst<|dR [cp "(",ar<|dj<|dA C R N x,cp o,ar<|dj<|dA C R N y,cp ")"]):=by
     rw[aa];unfold dR;simp only[Mz,Ny,gK]
    refine⟨[32],l3,_,e_ V.str qR,U,P8.of e3,?_,?_⟩
    ·have c1:(cp "(").length=1:=by decide +kernel
     have c2:(cp ")").length=1:=by decide +kernel
     simp only[Mz,Ny,NY,List.sum_nil,Mg,Mv];lia
    ·have:=q _ ((Y.trans s2).trans s3);have e4:ar (dj<|dA C R N<|.two o x y)=TK.jn [32] [cp "(",ar<|dj<|dA C R N x,cp o,ar<|dj<|dA C R N y,cp ")"]:=(Bf o _ _ (og _)<|og _).symm;rw[e4]at this;exact this
end
end L3
namespace L2
open PySem PySem.Spec PyProof.Rows
section
def Bi:fM X (binaryOp .Mult) (λx y H Q=>∃(l:Vy)(b:Bool),x=.str (S l)/\y=.int (if b=true then 1 else 0)/\l.length<=1000/\Q (.str<|S<|if b=true then l else []) H):=by
 intro e s i H x y v u Q I D L h;obtain⟨l,b,rfl,rfl,Y,q⟩:=h;obtain⟨t,rfl⟩:=D;obtain⟨o,rfl⟩:=L;have z:(S l).length=l.length:=aQ l;refine PySem.P.mul_str ?_ ?_ ?_ ?_
 ·cases b<;>simp
 ·intro _ _;rw[z];cases b
  ·intro O;simp at*
  ·intro O;first|(simp at*;done)|(simp at*;lia)
 ·intro _ _;rw[z];unfold Builtin.Str.tooLong;have sz:(10000:Nat)<=sizeLine:=by decide
  cases b<;>simp<;>lia
 ·cases b with
  |false=>
   rw[g_<|by simp];refine⟨?_,⟨.str<|S [],H,I.tok _,⟨_,U⟩,q⟩⟩;decide
  |true=>
   rw[f_ (by simp),g_<|by simp];exact⟨.str<|S l,H,I.tok _,⟨t,U⟩,q⟩
end
end L2
namespace L3
open PySem L2
def K9:Tt->Bool
 |.mk _ _=>true
 |_=>false
def Fq(t:Tt):Str:=if K9 t=true then Uk else Uh
def GU(t:Tt):decide (V.str (KS t)=V.str UW)=v0 t:=by
 cases t with
 |top b n=>exact b_ rfl
 |pl b n=>exact c_ λe=>absurd (V.str.inj e) (by show(Uh:Str)≠UW;decide +kernel)
 |mk b n=>exact c_ λe=>absurd (V.str.inj e) (by show(Uk:Str)≠UW;decide +kernel)
def D5(t:Tt):decide (V.str (KS t)=V.str Uk)=K9 t:=by
 cases t with
 |top b n=>exact c_ λe=>absurd (V.str.inj e) (by show(UW:Str)≠Uk;decide +kernel)
 |pl b n=>exact c_ λe=>absurd (V.str.inj e) (by show(Uh:Str)≠Uk;decide +kernel)
 |mk b n=>exact b_ rfl
def Jn(t:Tt):oH ([V.str Uh,.str Uk]:VA) (if K9 t=true then 1 else 0)=some (.str<|Fq t):=by
 cases t<;>first|exact aZ|exact cF
def Fs(t:Tt):Fq t=Uh\/Fq t=Uk:=by cases t<;>first|exact .inl rfl|exact .inr rfl
def Jo(h:DV i o e t):cg (gy i o<|Fq t) (Fq t) e (HN t).1 (HN t).2/\fj (gy i o<|Fq t) e (HN t).1 (HN t).2=rX i o e t:=by
 cases t with
 |top b n=>exact⟨by show cg (gy i o Uh) _ e b n;rw[ci];exact h,by show fj (gy i o Uh) e b n=_;rw[ci];rfl⟩
 |pl b n=>exact⟨by show cg (gy i o Uh) _ e b n;rw[ci];exact h,by show fj (gy i o Uh) e b n=_;rw[ci];rfl⟩
 |mk b n=>exact⟨by show cg (gy i o Uk) _ e b n;rw[dI];exact h,by show fj (gy i o Uk) e b n=_;rw[dI];rfl⟩
def Bj(t:Bool):Vy:=if t=true then [116,111,112,32]else []
def ud(t:Bool)(z:Str):Bj t++cp z=ar (dM t z):=by
 cases t with
 |true=>
  show [116,111,112,32]++cp z=ar [(UW:Str),z];rw[bF (by simp),df];have:cp (UW:Str)=[116,111,112]:=by decide +kernel
  rw[this];rfl
 |false=>rfl
def Bk(t:Bool)(z:Str):dM t z≠[]:=by cases t<;>simp[dM]
def oh(b:Bd):dz b≠[]:=by cases b<;>simp[dz]
def Bm(t:Bool)(z:Str)(y n:Bd):[123,32,105,102,32]++ar (dM t z)++[32]++ar (dz y)++[32,101,108,115,101,32]++ar (dz n)++[32,125]=ar (dz<|.ite t z y n):=by
 have e:dz (.ite t z y n)=("{":Str)::(Vf:Str)::(dM t z++(dz y++(Vb:Str)::(dz n++[("}":Str)]))):=rfl;rw[e,bF (by simp),bF (by simp[oh]),eX (Bk t z) (by simp[oh]),eX (oh y) (by simp),bF (by simp),eX (oh n) (by simp),df];have e1:cp ("{":Str)=[123]:=by decide +kernel
 have e2:cp (Vf:Str)=[105,102]:=by decide +kernel
 have q:cp (Vb:Str)=[101,108,115,101]:=by decide +kernel
 have e4:cp ("}":Str)=[125]:=by decide +kernel
 rw[e1,e2,q,e4];simp
def GV(g:Gs):rU g≠[]:=by cases g<;>simp[rU]
def Bn(g:Gs):[115,101,116,32]++ar (rU g)++[32,61,32]++ar (dj<|tj g)++[32,59]=ar (("set":Str)::jN g):=by
 rw[vM,bF (by simp),eX (GV g) (by simp),bF (by simp),eX (og _) (by simp),df];have e1:cp ("set":Str)=[115,101,116]:=by decide +kernel
 have e2:cp ("=":Str)=[61]:=by decide +kernel
 have q:cp (";":Str)=[59]:=by decide +kernel
 rw[e1,e2,q];simp
def pE:∀s:List Gs,bS s=(s.map λg=>("set":Str)::jN g).flatten
 |[]=>rfl
 |g::r=>by rw[Mz,NV,<-pE r];rfl
def GW(e:En):gX e≠[]:=by cases e<;>simp[gX]
def gN(s:List Gs):List (Vy):=cp "{"::s.map λg=>ar (("set":Str)::jN g)
def yP(s:List Gs)(e:En):TK.jn [32] (gN s++[ar<|gX e,cp "}"])=ar (dz<|.leaf s e):=by
 have h:=gz ([("{":Str)]::(s.map λg=>("set":Str)::jN g)++[gX e,[("}":Str)]]) (by
  intro g q;rcases MC.mp q with q|q
  ·rcases Mo.mp q with rfl|q
   ·simp
   ·obtain⟨z,_,rfl⟩:=MQ.mp q;simp
  ·simp only[Mo,Mu,l_]at q;rcases q with rfl|rfl
   ·exact GW e
   ·simp)
 have e1:([("{":Str)]::(s.map λg=>("set":Str)::jN g)++[gX e,[("}":Str)]]).flatten=dz (.leaf s e):=by
  rw[List.flatten_append,NV,<-pE];simp[dz]
 rw[e1]at h;rw[<-h];unfold gN;simp only[Mq,Mz,Ny,M8];rfl
def LX:Ee->Str
 |.w0 s=>s
 |.fault _=>Ut
 |.go s _=>s
def LY(e:Vz):Ee->Str
 |.w0 s=>s
 |.fault _=>Ut
 |.go s j=>S (ar [s,Bb e j])
inductive Bo(m:Nat)(vs:VA)(H:Hp)(Q:VK):Prop
 |mk(v d r W o t e dd:_)(m0:Nat):vs=[v,.ref d,.ref r]->RD H dd v->Tx H d r W o t e->m0<=3->m<=3->eA W o t e m0 m dd->(∀i,P4 H i->Q (.str<|S<|ar<|dz<|js o t e dd) i)->Bo m vs H Q
def xD :Nat->Sp
 |0=>li
 |m+1=>λvs H Q _=>Bo m vs H Q
def xE(h:aJ W i o t m e)(q:m<=n):aJ W i o t n e:=by
 induction q with
 |refl=>exact h
 |step _ z=>exact my z
def yQ(q:List Gs)(g:Gs):gN (q++[g])=gN q++[ar (("set":Str)::jN g)]:=by unfold gN;simp
def oi(q:List Gs):(gN q).length=q.length+1:=by unfold gN;simp
def lP:(("{ if ":Str)=S [123,32,105,102,32])/\((" else ":Str)=S [32,101,108,115,101,32])/\((" }":Str)=S [32,125])/\(("top ":Str)=S [116,111,112,32])/\(("set ":Str)=S [115,101,116,32])/\((" = ":Str)=S [32,61,32])/\((" ;":Str)=S [32,59]):=by decide +kernel
section
def QI:ax [Uu,Ug,Uf,"_law_test_here","_law_word","_law_yes",U1,U5,"_law_aim","_law_end_here"] [Uu,Ug,Uf] (aj kU):=cP zk
inductive wg(dd:Dd)(v:V)(d:Vr)(i:Vr)(o:Vz)(H:Hp)(m:Vx)(r:Vx)(f:St)(t:Hp):Prop
 |mk(lw:Vr)(ss:List Sd)(e:Ee)(v7 v8:Option V):dd=.leaf ss e->f=[some v,some<|.ref d,some<|.ref i,none,none,none,some<|.ref lw,v7,v8,some<|.str<|LY o e]->P4 H t->t lw=some (.lst<|dR<|gN<|ss.map<|dm m r o)->wg dd v d i o H m r f t
inductive Bp(dd:Dd)(v:V)(d:Vr)(i:Vr)(o:Vz)(H:Hp)(m:Vx)(r:Vx)(f:St)(t:Hp):Prop
 |mk(lw:Vr)(ss:List Sd)(e:Ee)(v7 v8:Option V):dd=.leaf ss e->f=[some v,some<|.ref d,some<|.ref i,none,none,none,some<|.ref lw,v7,v8,some<|.str<|S<|ar<|gX<|gW o e]->P4 H t->t lw=some (.lst<|dR<|gN<|ss.map<|dm m r o)->Bp dd v d i o H m r f t
def rl(F:Qj K "_law_deed_text" "_law_deed_text" kU f fd)(B:Bl mg)(ST:Fn P w K mg base "_law_sel_text" 1 [UP,UA,Uf] xB)(EX:Fn P w K mg base "_law_expr_text" n [Vi,Ug,Uf] (xC 4))(DT:Fn P w K mg base "_law_deed_text" n [Uu,Ug,Uf] (xD m))(hn:1<=n):P7 P w K mg base ce (n+1) f fd [Uu,Ug,Uf] (xD<|m+1):=by
 have ZZ:=QI
 walk_at "o"
 ·obtain⟨v,d,Z,W,X,M,C,dd,m0,rfl,hV,O,ZV,ZU,hD,q⟩:=h;have hu:=eE hr;have N8:P9 1 _:=hr.mono zo;have sz:(200000:Nat)<=sizeLine:=by decide
  have ec:=pB O.G ZV hD (Ml _);have YZ:=jS ec;have X':=bT (pA O.w24 ec);have h8:2^m<=8:=MP (MH zd ZU) zd;have tn:True:=trivial;refine⟨_,ae (aP (bY aR (cB (pv 0) af) ah)
    (ae (bP 3 QI.nd<|cB (pv 0) af)
    (ae (bP 4 QI.nd<|az Bi ah<|aU dJ (by rfl) B.int M0<|aV<|uC aR (cB (pv 3) af) ah)
    (ae (bP 4 QI.nd<|az aH (pv 4)<|ap ST N8 U<|du (cB (pv 3) af) (bv hu (pv 1)<|az aH (eZ (aM<|bj ah ah)<|aU dJ (by rfl) B.int M0<|aV<|uC aR (cB (pv 3) af) ah) ah)<|pv 2)
    (ae (bP 5 QI.nd<|ap DT hr U<|du (cB (pv 0) af) (pv 1)<|pv 2)
    (ai<|ao<|az aH (az aH (az aH (az aH (az aH (az aH ah<|pv 4) ah)<|pv 5) ah)<|ap DT hr U<|du (cB (pv 0) af) (pv 1)<|pv 2) ah))))) ay)
   (ae (bP 6 QI.nd<|aM<|aV ah)
   (ae (cU h_ U (hI<|cB (pv 0) af) (eQ 7 QI.nd)
    (ae (aP (bY aR (cB (pv 7) af) ah) (ai<|bP 8 QI.nd<|az aH (az aH ah<|ap EX hr U<|du (cB (pv 7) af) (pv 1)<|pv 2) ah)
      (ai<|bP 8 QI.nd<|ap ST N8 U<|du (cB (pv 7) af) (bv hu (pv 1)<|az aH (cB (pv 7) af) ah)<|pv 2))
    (ai<|aL<|cx Mw My Mx bu (pv 6)<|aV<|az aH (az aH (az aH (az aH ah<|pv 8) ah)<|ap EX hr U<|du (cB (pv 7) af) (pv 1)<|pv 2) ah)))
   (ae (bP 9 QI.nd<|cB (cB (pv 0) af) af)
   (bH (wg dd v d Z C H X M) (aP (PW.pt<|fL (bY aR (pv 9) ah)<|dU<|bY aR (pv 9) ah) (ai<|bP 9 QI.nd<|az aH (az aH (pv 9) ah)<|cB (eZ (pv 2)<|cB (cB (pv 0) af) af) af) ay)
   (bH (Bp dd v d Z C H X M) (aP (bY aR (pv 9) ah) (ai<|bP 9 QI.nd<|az aH (az aH (pv 9) ah)<|cB (cB (pv 0) af) af) ay)
   (ai<|ao<|cx M5 Na M9 fg ah<|aV<|az eK (pv 6)<|aM<|bj (pv 9) ah)))))),?_⟩
  cases dd with
  |ite t y z=>
   cases m with
   |zero=>simp[eA]at hD
   |succ m=>
    obtain⟨YT,ZR,eg⟩:=hD;obtain⟨p,u,a,bb,rfl,hp,⟨pt,ut,rfl,en,W3⟩,ha,hb⟩:=hV;obtain⟨WL,ta⟩:=Jo YT;have es:=pB O.G ZV ZR (Ml _);have er:=pB O.G ZV eg (Ml _);have ly:=bT (pA O.w24 es);have lz:=bT (pA O.w24 er);have tS:=jS es;have tL:=jS er;have h4:2^m<=8:=MP (MH zd (by lia:m<=3)) zd;have eL:de (rX X M C t):=by
     cases t with
     |top b n=>exact cO O.G.p O.G.f YT
     |pl b n=>exact cO O.G.p O.G.f YT
     |mk b n=>exact cO O.G.m O.G.f YT
    have tM:=eL.1.len;have tr:(Bj<|v0 t).length<=4:=by cases v0 t<;>decide
    refine IH λD' _ R=>?_;refine⟨_,U,p,_,_,_,U,U,P5.of hp,aZ,U,_,U,bx (b_ U) ?_⟩;refine put λD N=>?_;refine⟨_,U,p,_,_,_,U,U,P5.of hp,cF,?_⟩;refine N _ _ ?_;clear N D;refine put λD N=>?_;refine⟨_,U,pt,_,_,_,U,U,P5.of en,aZ,U,.inr ⟨_,U,?_⟩⟩;refine⟨[116,111,112,32],v0 t,e_ V.str lP.2.2.2.1,e_ (λb:Bool=>V.int<|if b=true then 1 else 0)<|GU t,zd,?_⟩;refine N _ _ ?_;clear N D;refine put λD N=>?_;refine⟨_,U,_,U,pt,_,_,_,U,U,P5.of en,cF,_,U,Qa,λll tm=>?_⟩;generalize zz:aB H ll _=H1;have s1:=(nw tm zz).1;have e1:=(nw tm zz).2;clear zz;obtain⟨l,dg,el⟩:=jr (O.t.same s1) (Fs t);refine⟨_,U,pt,_,_,_,U,U,P5.of<|s1 _ _ en,aZ,U,.inr ⟨_,U,ll,_,_,_,U,U,P8.of e1,by rw[D5];exact Jn t,?_⟩⟩;have eb:(Fq t).length+("s":Str).length<=sizeLine:=by rcases Fs t with e|e<;>rw[e]<;>decide +kernel
    refine⟨_,_,U,U,eb,d,_,U,dg,_,U,ut,l,Z,_,C,Fq t,_,_,U,W3.kt<|ak s1,el,O.f.same s1,WL,?_⟩;rw[ta];have ew:S (Bj<|v0 t)++rX X M C t=S (ar<|dM (v0 t)<|rX X M C t):=by
     have:rX X M C t=S (cp<|rX X M C t):=(gK _).symm;rw[this,cE,ud,gK]
    have zl:(rX X M C t).length=(cp<|rX X M C t).length:=by show(rX X M C t).cps.size=_;unfold cp;simp
    refine⟨_,_,U,U,?_,?_⟩
    ·have:(S<|Bj<|v0 t).length<=4:=by rw[aQ];exact tr
     show(S<|Bj<|v0 t).length+(rX X M C t).length<=sizeLine;lia
    have tN:(ar<|dM (v0 t)<|rX X M C t).length<=12:=by
     rw[<-ud,Md];lia
    have ez:V.str (S (if v0 t=true then [116,111,112,32]else [])++rX X M C t)=V.str (S<|ar<|dM (v0 t)<|rX X M C t):=e_ V.str ew;rw[ez];generalize Oh:ar (dM (v0 t)<|rX X M C t)=lt at*;refine N _ _ ?_;clear N D;refine⟨_,U,p,_,_,_,U,U,P5.of<|s1 _ _ hp,iW,_,U,_,U,a,d,Z,W,X,M,C,y,m0,U,ha.kt<|ak s1,O.same s1,ZV,zo,ZR,λH2 I=>?_⟩;have W8:=s1.trans I;refine⟨_,U,_,_,e_ V.str lP.1,U,by rw[aQ,aQ];simp;lia,?_⟩;rw[cE];refine⟨_,_,U,e_ V.str qR,by rw[aQ,aQ];simp;lia,?_⟩;rw[cE];refine⟨_,U,_,_,U,U,by rw[aQ,aQ];simp;lia,?_⟩;rw[cE];refine⟨_,_,U,e_ V.str lP.2.1,by rw[aQ,aQ];simp;lia,?_⟩;rw[cE];refine⟨_,U,p,_,_,_,U,U,P5.of<|W8 _ _ hp,Dz,_,U,_,U,bb,d,Z,W,X,M,C,z,m0,U,hb.kt<|ak W8,O.same W8,ZV,zo,eg,λH3 s3=>?_⟩;refine⟨_,_,U,U,by rw[aQ,aQ];simp;lia,?_⟩;rw[cE];refine⟨_,_,U,e_ V.str lP.2.2.1,by rw[aQ,aQ];simp;lia,?_⟩;rw[cE];have:=q H3 (W8.trans s3);have e4:ar (dz<|js X M C<|.ite t y z)=[123,32,105,102,32]++lt++[32]++ar (dz<|js X M C y)++[32,101,108,115,101,32]++ar (dz<|js X M C z)++[32,125]:=by
     rw[<-Oh];exact(Bm _ _ _ _).symm
    rw[e4]at this;refine R _ _ ?_;exact this
  |leaf Y e=>
   obtain⟨p,qs,us,u,rfl,hp,hq,Od,X7⟩:=hV;have h':Y.length<=4/\(Y.filter Sd.isCell).length<=1/\(∀g∈Y,gf W X M C m0 g)/\nZ C e:=by cases m<;>exact hD
   have eS:=Fp O.G.f h'.2.2.2;have tc:=Od.length;refine⟨_,U,p,_,_,_,U,U,P5.of hp,aZ,U,_,U,aY zk ?_⟩;refine⟨Qa,λL ek=>?_⟩;have s1:=ag (o:=.lst [V.str "{"]) ek;have e1:(aB H L<|.lst [V.str "{"]) L=some (.lst<|dR<|gN []):=by
    rw[aa];unfold dR gN;simp only[Mz,Ny,gK]
   generalize aB H L (.lst [V.str "{"])=H1 at*;refine⟨_,U,p,_,_,_,U,U,P5.of<|s1 _ _ hp,cF,qs,U,⟨_,P5.of<|s1 _ _ hq⟩,?_⟩;refine lU (K:=K) (a:=qs) (xs:=us) (λi σ H'=>∃v7 v8:Option V,σ=[some<|.ref p,some<|.ref d,some<|.ref Z,none,none,none,some<|.ref L,v7,v8,none]/\P4 H H'/\H' L=some (.lst<|dR<|gN<|(Y.take i).map<|dm X M C)) ⟨_,_,U,s1,e1⟩ (λi σ H' _ zz=>by obtain⟨_,_,_,s',_⟩:=zz;exact P5.of (s' _ _ hq)) ?_ ?_
   ·intro i x σ H2 hx z;obtain⟨v7,v8,rfl,I,e2⟩:=z;obtain⟨g,hg,Zn⟩:=fh Od hx;have Zm:=(Mc.mp hx).1;have XU:=h'.2.2.1 g (Mr hg);refine putL λD1 N1=>?_;refine put λD N=>?_;have tb:(2:Nat)^(3+2)=32:=by decide
    have V1:∀(H3:Hp)(p':Vr)(a0 a1 tt:V)(J:Ed),P4 H2 H3->H p'=some (.tup [a0,a1,tt])->QJ H J tt->aJ W X M C m0 J->tj (dm X M C g)=dA X M C J->(ar<|rU<|dm X M C g).length<=400->D.nx [some<|.ref p,some<|.ref d,some<|.ref Z,none,none,none,some<|.ref L,some<|.ref p',some<|.str<|S<|ar<|rU<|dm X M C g,none] H3:=by
     intro H3 p' a0 a1 tt J s3 J' XG et ti lh;have et:=xE et ZV;have le:=bT (gT O.w24<|eG O.G et);have tT:=dD (eG O.G et);refine N _ _ ?_;refine⟨_,U,.inl ⟨U,_,P8.of<|s3 _ _ e2⟩,_,U,_,_,e_ V.str lP.2.2.2.2.1,U,by rw[aQ,aQ];simp;lia,?_⟩;rw[cE];refine⟨_,_,U,e_ V.str lP.2.2.2.2.2.1,by rw[aQ,aQ];simp;lia,?_⟩;rw[cE];refine⟨_,U,p',_,_,_,U,U,P5.of<|(I.trans s3) _ _ J',iW,_,U,_,U,tt,d,Z,W,X,M,C,J,U,XG.kt<|ak<|I.trans s3,O.same<|I.trans s3,zd,et,λH4 s4=>?_⟩;refine⟨_,_,U,U,by rw[aQ,aQ];simp;lia,?_⟩;rw[cE];refine⟨_,_,U,e_ V.str lP.2.2.2.2.2.2,by rw[aQ,aQ];simp;lia,?_⟩;rw[cE];refine⟨L,_,_,U,U,(s3.trans s4) _ _ e2,by rw[eo,oi,Me,Mp];lia,N1 _ _ ⟨_,_,U,c7 ek<|(I.trans s3).trans s4,?_⟩⟩;rw[aa]
     congr 2
     rw[MW,hg];show _=dR (gN<|List.map (dm X M C)<|Y.take i++[g]);rw[Mq,Mz,Ny,yQ,<-Bn,ti];unfold dR;rw[Mq];rfl
    clear N N1;cases g with
    |cell a J=>
     obtain⟨p',uu,tt,rfl,J',ea,XG⟩:=Zn;have ei:aJ W X M C 3 a:=xE XU.1 zo;have la:=bT (gT O.w24<|eG O.G ei);have tx:=dD (eG O.G ei);refine⟨_,U,p',_,_,_,U,U,P5.of<|I _ _ J',aZ,U,_,U,bx (b_ U) ?_⟩;refine⟨_,U,p',_,_,_,U,U,P5.of<|I _ _ J',cF,_,U,_,U,uu,d,Z,W,X,M,C,a,U,ea.kt<|ak I,O.same I,zd,ei,λH3 s3=>?_⟩;refine⟨_,_,e_ V.str D0.1,U,by rw[aQ,aQ];simp;lia,?_⟩;rw[cE];refine⟨_,_,U,e_ V.str D0.2,by rw[aQ,aQ];simp;lia,?_⟩;rw[cE];have eh:[91,32]++ar (dj<|dA X M C a)++[32,93]=ar (rU<|dm X M C<|.cell a J):=pC _ (og _);have lh:(ar<|rU<|dm X M C<|.cell a J).length<=400:=by
      rw[<-eh,Md,Md];simp;lia
     rw[eh];exact V1 _ _ _ _ _ _ s3 J' XG XU.2 U lh
    |pl b n J=>
     obtain⟨p',uu,tt,rfl,J',ea,XG⟩:=Zn;obtain⟨l,dg,el⟩:=jr (O.t.same I) (st:=Uh) (by first|exact .inl rfl|exact .inr U);refine⟨_,U,p',_,_,_,U,U,P5.of<|I _ _ J',aZ,U,_,U,aY zk ?_⟩;refine⟨_,U,p',_,_,_,U,U,P5.of<|I _ _ J',cF,_,U,_,U,p',_,_,_,U,U,P5.of<|I _ _ J',aZ,_,_,U,U,zk,d,_,U,dg,_,U,uu,l,Z,_,C,Uh,b,n,U,ea.kt<|ak I,el,O.f.same I,by rw[ci];exact XU.1,?_⟩;rw[ci];have nm:=(cO (st:=Uh) O.G.p O.G.f XU.1).1.len;have lh:(ar<|rU<|dm X M C<|.pl b n J).length<=400:=by
      show(cp<|fj _ C b n).length<=400;lia
     have:=V1 _ _ _ _ _ _ (P4.refl _) J' XG XU.2 U lh;rw[show ar (rU<|dm X M C<|.pl b n J)=cp (fj _ C b n)from rfl,gK]at this;exact this
    |mk b n J=>
     obtain⟨p',uu,tt,rfl,J',ea,XG⟩:=Zn;obtain⟨l,dg,el⟩:=jr (O.t.same I) (st:=Uk) (by first|exact .inl rfl|exact .inr U);refine⟨_,U,p',_,_,_,U,U,P5.of<|I _ _ J',aZ,U,_,U,aY zk ?_⟩;refine⟨_,U,p',_,_,_,U,U,P5.of<|I _ _ J',cF,_,U,_,U,p',_,_,_,U,U,P5.of<|I _ _ J',aZ,_,_,U,U,zk,d,_,U,dg,_,U,uu,l,Z,_,C,Uk,b,n,U,ea.kt<|ak I,el,O.f.same I,by rw[dI];exact XU.1,?_⟩;rw[dI];have nm:=(cO (st:=Uk) O.G.m O.G.f XU.1).1.len;have lh:(ar<|rU<|dm X M C<|.mk b n J).length<=400:=by
      show(cp<|fj _ C b n).length<=400;lia
     have:=V1 _ _ _ _ _ _ (P4.refl _) J' XG XU.2 U lh;rw[show ar (rU<|dm X M C<|.mk b n J)=cp (fj _ C b n)from rfl,gK]at this;exact this
   ·intro σ H2 z;obtain⟨v7,v8,rfl,I,e2⟩:=z;rw[tc,MD]at e2;have hE:∃pe r,u=.ref pe/\H pe=some (.tup (.str (LX e)::r)):=by
     cases e with
     |w0 s=>obtain⟨pe,a,b⟩:=X7;exact⟨pe,_,a,b⟩
     |fault z=>obtain⟨pe,a,b⟩:=X7;exact⟨pe,_,a,b⟩
     |go s j=>obtain⟨pe,a,b⟩:=X7;exact⟨pe,_,a,b⟩
    obtain⟨pe,re,rfl,eF⟩:=hE;refine⟨_,U,p,_,_,_,U,U,P5.of<|I _ _ hp,iW,pe,_,_,_,U,U,P5.of<|I _ _ eF,aZ,?_,?_⟩
    ·intro σ H3 z;obtain⟨L,tp,e',v7,v8,ed,rfl,s3,e3⟩:=z;cases ed;refine⟨?_,?_⟩
     ·intro σ H4 z;obtain⟨L,tp,e',v7,v8,ed,rfl,s4,e4⟩:=z;cases ed;have tA:=bT (Fl eS);have tv:=xm (gW C e);refine⟨U,_,U,_,U,Qa,λl5 n5=>?_⟩;have s5:=ag (o:=.lst [.str<|S<|ar<|gX<|gW C e,.str "}"]) n5;have e5:(aB H4 l5<|.lst [.str<|S<|ar<|gX<|gW C e,.str "}"]) l5=some (.lst<|dR [ar<|gX<|gW C e,cp "}"]):=by
       rw[aa];unfold dR;simp only[Mz,Ny,gK]
      generalize aB H4 l5 (.lst [V.str<|S<|ar<|gX<|gW C e,.str "}"])=H5 at*;refine⟨L,l5,_,_,U,U,s5 _ _ e4,e5,by rw[eo,eo,oi,Me];simp;lia,λl6 n6=>?_⟩;have eT:dR (gN<|Y.map<|dm X M C)++dR [ar<|gX<|gW C e,cp "}"]=dR (gN (Y.map<|dm X M C)++[ar<|gX<|gW C e,cp "}"]):=by unfold dR;rw[Mq]
      rw[eT];have s6:=ag (o:=.lst (dR<|gN (Y.map<|dm X M C)++[ar<|gX<|gW C e,cp "}"])) n6;refine⟨[32],l6,_,e_ V.str qR,U,P8.of aa,?_,?_⟩
      ·have hb:∀t∈gN (Y.map<|dm X M C)++[ar<|gX<|gW C e,cp "}"],t.length<=1000:=by
        intro t ht;rcases MC.mp ht with ht|ht
        ·rcases Mo.mp ht with rfl|ht
         ·decide +kernel
         ·obtain⟨g0,Zo,rfl⟩:=MQ.mp ht;obtain⟨g1,eH,rfl⟩:=MQ.mp Zo;have ey:=Fo O.G ZV (h'.2.2.1 g1 eH);have h1:=xk ey;have h2:=bT (zs:=("set":Str)::jN (dm X M C g1)) (by
           intro z hz;rcases Mo.mp hz with rfl|hz
           ·exact .word zk
           ·exact Fk O.w24 ey z hz)
          rw[Mg]at h2;lia
        ·simp only[Mo,Mu,l_]at ht;rcases ht with rfl|rfl
         ·lia
         ·decide +kernel
       have h1:=jp 1000 _ hb;have h2:(gN (Y.map<|dm X M C)++[ar<|gX<|gW C e,cp "}"]).length<=7:=by
        rw[Md,oi,Me];simp;lia
       simp only[Mg,Mv];lia
      ·have:=q _ ((s4.trans s5).trans s6);have e7:ar (dz<|js X M C<|.leaf Y e)=TK.jn [32] (gN (Y.map<|dm X M C)++[ar<|gX<|gW C e,cp "}"]):=(yP _ _).symm;rw[e7]at this;exact this
     ·cases e with
      |w0 s=>
       have hs:s∈([UJ,UN,UO]:Vx):=h'.2.2.2;have Oe:s≠Ut:=by
        have:∀z∈([UJ,UN,UO]:Vx),z≠Ut:=by decide +kernel
        exact this s hs
       refine⟨_,U,U,_,U,aY (c_ λe=>Oe<|V.str.inj e) ⟨L,Y,.w0 s,v7,v8,U,?_,s3,e3⟩⟩;exact e_ (λz=>[some<|V.ref p,some<|.ref d,some<|.ref Z,none,none,none,some<|.ref L,v7,v8,some<|.str z]) (gK s).symm
      |fault z=>
       obtain⟨tf,J,Wa⟩:=X7;cases J;have nz:de z:=h'.2.2.2;have ln:=nz.1.len;have zl:z.length=(cp z).length:=by show z.cps.size=_;unfold cp;simp
       refine⟨_,U,U,_,U,bx (b_ U) ?_⟩;refine⟨_,U,_,_,U,U,by show(Ut:Str).length+(" ":Str).length<=sizeLine;decide +kernel,_,U,p,_,_,_,U,U,P5.of<|s3 _ _ hp,iW,pe,_,_,_,U,U,P5.of<|s3 _ _ Wa,cF,_,_,U,U,?_,?_⟩
       ·have:((Ut:Str)++(" ":Str)).length=6:=by decide +kernel
        show((Ut:Str)++(" ":Str)).length+z.length<=sizeLine;lia
       ·refine⟨L,Y,.fault z,v7,v8,U,?_,s3,e3⟩;refine e_ (λz=>[some<|V.ref p,some<|.ref d,some<|.ref Z,none,none,none,some<|.ref L,v7,v8,some<|.str z]) ?_;show(Ut:Str)++(" ":Str)++z=S (ar [(Ut:Str),z]);rw[bF (by simp),df];have e8:(Ut:Str)++(" ":Str)=S (cp Ut++[32]):=by decide +kernel
        rw[e8];have e9:z=S (cp z):=(gK z).symm;rw[e9,cE,gM]
        congr 1
        try simp
      |go s j=>
       have hs:s∈([U4,Uz]:Vx):=h'.2.2.2.1;have Oe:S (ar [s,Bb C j])≠Ut:=by
        intro e;have e2:=e_ cp e;rw[gM,bF (by simp),df]at e2;have:∀z∈([U4,Uz]:Vx),(cp z)[0]?≠some 102/\cp z≠[]:=by decide +kernel
        obtain⟨h1,h2⟩:=this s hs;have e3:=e_ (λl:Vy=>l[0]?) e2;have e4:(cp (Ut:Str))[0]?=some 102:=by decide +kernel
        have e5:(cp s++(32::cp (Bb C j)))[0]?=(cp s)[0]?:=by
         cases hc:cp s with
         |nil=>exact absurd hc h2
         |cons a r=>rfl
        exact h1 (by rw[<-e5];exact e3.trans e4)
       exact⟨_,U,U,_,U,aY (c_ λe=>Oe<|V.str.inj e) ⟨L,Y,.go s j,v7,v8,U,U,s3,e3⟩⟩
    ·cases e with
     |w0 s=>
      have hs:s∈([UJ,UN,UO]:Vx):=h'.2.2.2;have:∀z∈([UJ,UN,UO]:Vx),z≠U4/\z≠Uz:=by decide +kernel
      obtain⟨h1,h2⟩:=this s hs;refine⟨_,U,U,_,U,aY (c_ λe=>h1<|V.str.inj e) ?_⟩;refine⟨_,U,U,_,U,aY (c_ λe=>h2<|V.str.inj e) ⟨L,Y,.w0 s,v7,v8,U,U,I,e2⟩⟩
     |fault z=>
      refine⟨_,U,U,_,U,aY (by show decide (V.str Ut=V.str U4)=false;decide +kernel) ?_⟩;refine⟨_,U,U,_,U,aY (by show decide (V.str Ut=V.str Uz)=false;decide +kernel) ⟨L,Y,.fault z,v7,v8,U,U,I,e2⟩⟩
     |go s j=>
      obtain⟨tf,J,Wa⟩:=X7;cases J;obtain⟨hs,z,hz⟩:=h'.2.2.2;obtain⟨fu,pf,f1,f2,f3⟩:=Bh O.f hz;have nz:de z:=O.G.f _ (Mr hz);have ln:=nz.1.len;have zl:z.length=(cp z).length:=by show z.cps.size=_;unfold cp;simp
      have W3:∀y∈([U4,Uz]:Vx),y.length<=4/\(y++(" ":Str)).length<=5/\y++(" ":Str)=S (cp y++[32]):=by decide +kernel
      obtain⟨tg,tk,e0⟩:=W3 s hs;have B':wg (Dd.leaf Y<|.go s j) (.ref p) d Z C H X M [some<|V.ref p,some<|.ref d,some<|.ref Z,none,none,none,some<|.ref L,v7,v8,some<|.str<|s++(" ":Str)++z] H2:=by
       refine⟨L,Y,.go s j,v7,v8,U,?_,I,e2⟩;refine e_ (λz=>[some<|V.ref p,some<|.ref d,some<|.ref Z,none,none,none,some<|.ref L,v7,v8,some<|.str z]) ?_;show s++(" ":Str)++z=S (ar [s,Bb C j]);rw[bF (by simp),df,gh hz,e0];have e9:z=S (cp z):=(gK z).symm;rw[e9,cE,gM]
       congr 1
       try simp
      have ev:s.length+(" ":Str).length<=sizeLine:=by
       have:(" ":Str).length=1:=by decide +kernel
       lia
      by_cases XU:s=U4
      ·refine⟨_,U,U,_,U,bx (b_<|by rw[XU];rfl)<|kG ?_⟩;refine⟨_,U,_,_,U,U,ev,_,U,_,U,p,_,_,_,U,U,P5.of<|I _ _ hp,iW,pe,_,_,_,U,U,P5.of<|I _ _ Wa,cF,Z,_,_,_,U,U,P8.of<|I _ _ f1,aI f2,pf,_,_,_,U,U,P5.of<|I _ _ f3,aZ,_,_,U,U,?_,B'⟩;show(s++(" ":Str)).length+z.length<=sizeLine;lia
      ·have eN:s=Uz:=by
        simp only[Mo,Mu,l_]at hs;exact hs.resolve_left XU
       refine⟨_,U,U,_,U,aY (c_ λe=>XU<|V.str.inj e) ?_⟩;refine⟨_,U,U,_,U,bx (b_<|by rw[eN];rfl) ?_⟩;refine⟨_,U,_,_,U,U,ev,_,U,_,U,p,_,_,_,U,U,P5.of<|I _ _ hp,iW,pe,_,_,_,U,U,P5.of<|I _ _ Wa,cF,Z,_,_,_,U,U,P8.of<|I _ _ f1,aI f2,pf,_,_,_,U,U,P5.of<|I _ _ f3,aZ,_,_,U,U,?_,B'⟩;show(s++(" ":Str)).length+z.length<=sizeLine;lia
end
def rm:Nat->Nat
 |0=>1
 |m+1=>2*rm m+3
def jZ:∀m,1<=rm m
 |0=>Ml _
 |m+1=>by unfold rm;lia
def Bq(h:m<=n):rm m<=rm n:=by
 induction h with
 |refl=>exact Ml _
 |step _ q=>simp only[rm];lia
def ju:∀{m:Nat}{e:Ed},aJ W d r t m e->(dj<|dA d r t e).length<=rm m
 |m,.num _,_=>jZ m
 |m,.fld _,_=>jZ m
 |m,.pl _ _,_=>jZ m
 |m,.mk _ _,_=>jZ m
 |0,.cell _,h=>absurd h (by simp[aJ])
 |m+1,.cell e,h=>by
  have i:aJ W d r t m e:=by simpa[aJ]using h
  have:=ju i;have p:=jZ m;simp only[dA,dj,rm,Mg,Md,Mv];lia
 |0,.two _ _ _,h=>absurd h (by simp[aJ])
 |m+1,.two o x y,h=>by
  have i:o∈dG/\aJ W d r t m x/\aJ W d r t m y:=by simpa[aJ]using h
  have f:=ju i.2.1;have v:=ju i.2.2;simp only[dA,dj,rm,Mg,Md,Mv];lia
def GX(h:gf W r i o m g):(jN<|dm r i o g).length+1<=4+rm m+(if g.isCell=true then 1+rm m else 0):=by
 cases g with
 |cell a e=>
  have d:=ju h.1;have t:=ju h.2;have q:=Bq (m:=m-1) (n:=m) zo;simp only[dm,jN,Mg,Md,Mv,Sd.isCell,K_];lia
 |pl b n e=>
  have t:=ju h.2;simp only[dm,jN,Mg,Md,Mv,Sd.isCell,K_];lia
 |mk b n e=>
  have t:=ju h.2;simp only[dm,jN,Mg,Md,Mv,Sd.isCell,K_];lia
def ue:∀{s:List Sd},(∀g∈s,gf W i o t m g)->(bS<|s.map<|dm i o t).length<=s.length*(4+rm m)+(s.filter Sd.isCell).length*(1+rm m)
 |[],_=>by simp[bS]
 |g::r,h=>by
  have e:=GX (h g Mf);have d:=ue λx z=>h x (Mn _ z);simp only[Mz,bS,Mg,Md,NR,Te];by_cases q:g.isCell=true
  ·rw[Nv q,Mg,NR,Te];rw[g_ q]at e;lia
  ·rw[NP q];rw[f_ q]at e;lia
def lD(m:Nat):Nat->Nat
 |0=>4+4*(4+rm m)+(1+rm m)
 |c+1=>2*lD m c+6
def pF(m:Nat):∀c,lD m 0<=lD m c
 |0=>Ml _
 |c+1=>by have:=pF m c;simp only[lD]at*;lia
def wj:∀{c:Nat}{d:Dd},eA W r i o m c d->(dz<|js r i o d).length<=lD m c
 |c,.leaf s e,h=>by
  have f:s.length<=4/\(s.filter Sd.isCell).length<=1/\(∀g∈s,gf W r i o m g)/\nZ o e:=by cases c<;>exact h
  have v:=ue f.2.2.1;have p:=pF m c;have q:s.length*(4+rm m)<=4*(4+rm m):=S8 _ f.1;have z:(s.filter Sd.isCell).length*(1+rm m)<=1*(1+rm m):=S8 _ f.2.1;have O:(gX<|gW o e).length<=2:=by cases e<;>simp[gW,gX]
  simp only[js,dz,Mg,Md,Mv];simp only[lD]at p;lia
 |0,.ite _ _ _,h=>absurd h (by simp[eA])
 |c+1,.ite t y n,h=>by
  have v:=wj (c:=c) h.2.1;have p:=wj (c:=c) h.2.2;simp only[js,dz,lD,Mg,Md,Mv];have q:((if v0 t=true then [(UW:Str),rX r i o t]else [rX r i o t]):Vx).length<=2:=by split<;>simp
  lia
def j6(e:Vz):(eC e).length=3*e.length-1:=by
 unfold eC;rw[Mp,tR];lia
def GY(h:KL W i o fn c k x):(cw x).length<=12+lD (k-1) c:=by
 obtain⟨j,q,e⟩:=h.fn;have z:x.fs.length<=3:=by
  have:=e_ List.length e;rw[Me,Mp]at this;lia
 have t:=wj h.dd;unfold cw;rw[h.bd];simp only[Mg,Md,Mv,j6];lia
def xF:∀{l:List Kn},(∀x∈l,(cw x).length<=b)->(l.flatMap cw).length<=l.length*b
 |[],_=>by simp
 |x::r,h=>by
  have e:=h x Mf;have t:=xF λy q=>h y (Mn _ q);rw[Nz,Md,Mg,NR,Te];lia
def GZ(h:yN n c k):n*(12+lD (k-1) c)<=1400/\lD (k-1) c<=1000:=by
 have f:∀O z q b,lD (z-1) q<=b->O*(12+b)<=1400->b<=1000->n<=O->k=z->c=q->n*(12+lD (k-1) c)<=1400/\lD (k-1) c<=1000:=by
  intro O z q b t e Y I D L;subst D L;exact⟨MP (Nat.mul_le_mul I zo) e,zo⟩
 obtain⟨_,h,rfl,rfl⟩:=h;exact f 3 3 2 370 zd zd zd h U rfl
def Br(h:qY D fn e):(fV D).length<=23:=by
 have t:=h.p4;have o:=h.m3;have q:D.gates.length<=1:=by rw[h.ga];cases e<;>simp[gL]
 unfold fV;simp only[Mg,Md,Mv];lia
def oj(h:qY D fn e):(eu D).length<=1500:=by
 obtain⟨c,k,z,q⟩:=h.kl;have t:=Br h;have o:=xF (l:=D.kinds) λx O=>GY (q x O);have I:=GZ z;unfold eu;rw[Md];lia
def xG(h:qY D fn e)(Y:x∈D.kinds):Jk D.places D.marks x.fs:=by
 obtain⟨c,k,_,L⟩:=h.kl;obtain⟨j,_,I⟩:=(L x Y).fn;refine⟨λz q=>h.nf z (by simp[q]),λz q=>h.nf z (by simp[q]),λf O=>?_⟩;have:f.1∈x.fs.map (·.1):=MQ.mpr ⟨f,O,U⟩;rw[I]at this;exact h.nf _ (Mj _<|M6 this)
def wk(h:qY D fn e)(q:x∈D.kinds):fE D.width 3 x.bd:=by
 obtain⟨c,k,O,z⟩:=h.kl;have:=xr O;rw[(z x q).bd];exact pB (xG h q) zo (z x q).dd zo
def om(h:qY D fn t)(z:x∈D.kinds):x.fs.length<=3:=by
 obtain⟨c,k,_,q⟩:=h.kl;obtain⟨j,O,e⟩:=(q x z).fn;have:=e_ List.length e;rw[Me,Mp]at this;lia
def wl(h:qY D fn e)(z:x∈D.kinds):∀f∈x.fs,f.2∈ef:=by
 obtain⟨c,k,_,q⟩:=h.kl;exact(q x z).st
def on(h:qY D fn e):∀z∈D.gates,z∈D.marks:=by
 intro z q;rw[h.ga]at q;cases VP:e with
 |none=>rw[VP]at q;cases q
 |some g=>
  rw[VP]at q;have O:=h.gb g VP;rw[MJ.mp q,MI,Mi O];exact MX O
def wm(h:s∈ef):s∈QR:=by
 have:∀s∈ef,s∈QR:=by decide +kernel
 exact this s h
def Bs(h:∀f∈e,Qh f.1/\f.2∈ef):∀z∈eC e,QQ z:=by
 intro z I;have q:=M6 I;unfold qS at q;obtain⟨x,O,q⟩:=List.mem_flatMap.mp q;simp only[Mo,Mu,l_]at q;rcases q with rfl|rfl|rfl
 ·exact .name (h x O).1
 ·exact .word (wm (h x O).2)
 ·exact .sign zk
def xH(h:qY D fn e):∀z∈fV D,QQ z:=by
 have L:=h.c64;have I:=h.w24;have Y:=h.d8;intro z q;unfold fV at q;simp only[MC,Mo,Mu,l_]at q;have O:∀z∈QR,QQ z:=λz q=>.word q;have nm:∀z∈D.places++D.marks,QQ z:=λz q=>.name (h.nf z<|MO _ q).1;rcases q with(((((rfl|rfl|rfl|rfl|rfl|rfl|rfl|rfl|rfl)|(rfl|q)|rfl)|(rfl|q)|rfl)|rfl)|q)|rfl
 ·exact O _ zk
 ·exact .num zo
 ·exact .sign zk
 ·exact O _ zk
 ·exact .num zo
 ·exact .sign zk
 ·exact O _ zk
 ·exact .num zo
 ·exact .sign zk
 ·exact O _ zk
 ·exact nm z (MO _ q)
 ·exact .sign zk
 ·exact O _ zk
 ·exact nm z (Mj _ q)
 ·exact .sign zk
 ·exact O _ zk
 ·exact nm z (Mj _<|on h z q)
 ·exact .sign zk
def rn(h:qY D fn e)(O:x∈D.kinds):∀z∈cw x,QQ z:=by
 intro z q;unfold cw at q;simp only[MC,Mo,Mu,l_]at q;rcases q with(((rfl|rfl|rfl)|q)|rfl)|q
 ·exact .word zk
 ·exact .name (h.kf x O).1
 ·exact .sign zk
 ·exact Bs (λf I=>⟨((xG h O).f f I).1,wl h O f I⟩) z q
 ·exact .sign zk
 ·exact pA h.w24 (wk h O) z q
def D6(h:qY D fn e):∀z∈eu D,QQ z:=by
 intro z q;rcases MC.mp q with q|q
 ·exact xH h z q
 ·obtain⟨x,O,q⟩:=List.mem_flatMap.mp q;exact rn h O z q
def Bu(h:l[n]?=some z):(z,st,false,n)∈jy st l:=Mr (i:=n) (by rw[nQ,h];rfl)
def Jp(h:e[j]?=some (z,st)):(z,st,true,j)∈fN e:=Mr (i:=j) (by rw[AB,h];rfl)
structure G0(ks:List Ne)(ps ms:Vx)(fs:Vz):Prop where
 p:∀(n:Nat)(z:Str),ps[n]?=some z->(z,(Uh:Str),false,n)∈ks
 m:∀(n:Nat)(z:Str),ms[n]?=some z->(z,(Uk:Str),false,n)∈ks
 f:∀(n:Nat)(z s:Str),fs[n]?=some (z,s)->(z,s,true,n)∈ks
def Jq(D:Fm)(e:Vz):G0 (iX D++fN e) D.places D.marks e:=
 ⟨λn z h=>MO _<|MO _<|Bu h,λn z h=>MO _<|Mj _<|Bu h,λn z s h=>Mj _<|Jp h⟩
section
variable{ks:List Ne}
def jv{L:Vx}{st:Str}{e:Vz}{b:Bool}{n:Nat}(I:∀(n:Nat)(z:Str),L[n]?=some z->(z,st,false,n)∈ks)(O:∀(n:Nat)(z s:Str),e[n]?=some (z,s)->(z,s,true,n)∈ks)(h:cg L st e b n):(fj L e b n,st,b,n)∈ks:=by
 unfold cg at h;unfold fj;cases b with
 |true=>
  rw[g_ rfl]at h⊢;obtain⟨z,q⟩:=h;rw[gh q];exact O _ _ _ q
 |false=>
  rw[f_ zd]at h⊢;rw[MI,Mi h];exact I _ _ (Mi h)
variable{N v:Vx}{W:Nat}
def wn{i:Vz}(G:G0 ks N v i):∀{m:Nat}{e:Ed},aJ W N v i m e->vV ks (dA N v i e) e
 |_,.num n,h=>.num n
 |m,.fld j,h=>by
  have t:∃z:Str,i[j]?=some (z,("number":Str)):=by cases m<;>simpa[aJ]using h
  obtain⟨z,q⟩:=t;refine .fld (b:=true) ?_;rw[gh q];exact G.f _ _ _ q
 |m,.pl b n,h=>by
  have t:cg N Uh i b n:=by cases m<;>simpa[aJ]using h
  exact .pl (jv G.p G.f t)
 |m,.mk b n,h=>by
  have t:cg v Uk i b n:=by cases m<;>simpa[aJ]using h
  exact .mk (jv G.m G.f t)
 |0,.cell _,h=>absurd h (by simp[aJ])
 |m+1,.cell e,h=>.cell (wn G (m:=m) (e:=e)<|by simpa[aJ]using h)
 |0,.two _ _ _,h=>absurd h (by simp[aJ])
 |m+1,.two o x y,h=>by
  have t:o∈dG/\aJ W N v i m x/\aJ W N v i m y:=by simpa[aJ]using h
  exact .two t.1 (wn G (m:=m) t.2.1) (wn G (m:=m) t.2.2)
variable{m:Nat}
def Lb{t:Vz}(G:G0 ks N v t){g:Sd}(h:gf W N v t m g):GC ks (dm N v t g) g:=by
 cases g with
 |cell a e=>exact .cell (wn G h.1) (wn G h.2)
 |pl b n e=>exact .pl (jv G.p G.f h.1) (wn G h.2)
 |mk b n e=>exact .mk (jv G.m G.f h.1) (wn G h.2)
def Lc(G:G0 ks N v t)(h:nZ t e):HM ks (gW t e) e:=by
 cases e with
 |w0 s=>exact .w0 h
 |fault z=>exact .fault z
 |go s j=>
  obtain⟨o,z,q⟩:=h;refine .go (b:=true) o ?_;rw[gh q];exact G.f _ _ _ q
def Ld{e:Vz}(G:G0 ks N v e){t:Tt}(h:DV N v e t):HP ks (v0 t) (rX N v e t) t:=by
 cases t with
 |top b n=>exact .top (jv G.p G.f h)
 |pl b n=>exact .pl (jv G.p G.f h)
 |mk b n=>exact .mk (jv G.m G.f h)
def Bv(G:G0 ks N v e):∀{s:List Sd},(∀g∈s,gf W N v e m g)->Paired (GC ks) (s.map<|dm N v e) s
 |[],_=>.nil
 |g::r,h=>.cons (Lb G<|h g Mf) (Bv G λx q=>h x<|Mn _ q)
def G1(G:G0 ks N v o):∀{c:Nat}{d:Dd},eA W N v o m c d->GD ks (js N v o d) d
 |c,.leaf s e,h=>by
  have i:s.length<=4/\(s.filter Sd.isCell).length<=1/\(∀g∈s,gf W N v o m g)/\nZ o e:=by cases c<;>exact h
  exact .leaf (Bv G i.2.2.1) (Lc G i.2.2.2)
 |0,.ite _ _ _,h=>absurd h (by simp[eA])
 |c+1,.ite t y n,h=>.ite (Ld G h.1) (G1 G (c:=c) h.2.1) (G1 G (c:=c) h.2.2)
def iM:∀{m:Nat}{x:Ex},c9 w m x->rV x<=m
 |_,.num _,_=>MR _
 |_,.nm _,_=>MR _
 |0,.cell _,h=>absurd h (by simp[c9])
 |m+1,.cell e,h=>by
  have:=iM (m:=m) (x:=e) h;simp only[rV];lia
 |0,.two _ _ _,h=>absurd h (by simp[c9])
 |m+1,.two o x y,h=>by
  have t:=iM (m:=m) h.2.1;have i:=iM (m:=m) h.2.2;simp only[rV];lia
def D7(h:kZ w g):IZ g<=3:=by
 cases g with
 |cell a e=>
  have t:=iM h.1;have o:=iM h.2;simp only[IZ];lia
 |nm z e=>exact iM h.2
def wo:∀{m:Nat}{b:Bd},fE w m b->CI b<=m
 |_,.leaf _ _,_=>MR _
 |0,.ite _ _ _ _,h=>absurd h (by simp[fE])
 |m+1,.ite t z y n,h=>by
  have e:=wo (m:=m) h.2.1;have o:=wo (m:=m) h.2.2;simp only[CI];lia
def oo:∀{m:Nat}{b:Bd},fE w m b->tw 3 b
 |m,.leaf s e,h=>by
  have o:s.length<=4/\(∀g∈s,kZ w g):=by cases m<;>exact⟨h.1,h.2.1⟩
  exact⟨λg q=>D7<|o.2 g q,o.1⟩
 |0,.ite _ _ _ _,h=>absurd h (by simp[fE])
 |m+1,.ite t z y n,h=>⟨oo (m:=m) h.2.1,oo (m:=m) h.2.2⟩
def mF(st:Str)(l:Vx):(jy st l).map (·.1)=l:=by
 refine List.ext_getElem? λi=>?_;rw[Mt,nQ];cases l[i]?<;>rfl
def G3(e:Vz):(fN e).map (·.1)=e.map (·.1):=by
 refine List.ext_getElem? λi=>?_;rw[Mt,AB,Mt];cases e[i]?<;>rfl
def G4(h:qY D fn e)(q:x∈D.kinds):GE (iX D) x:=by
 obtain⟨c,k,L,z⟩:=h.kl;have O:=wk h q;refine⟨?_,om h q,?_,wo O,oo O⟩
 ·obtain⟨j,_,I⟩:=(z x q).fn;unfold iX;rw[Mq,Mq,mF,mF,G3,I];exact List.Nodup.sublist (List.Sublist.append (List.Sublist.refl _)<|Ts _ _) h.nd
 ·rw[(z x q).bd];exact G1 (Jq D x.fs) (z x q).dd
def wq(h:qY D fn e):tH D:=by
 obtain⟨c,k,q,O⟩:=h.kl;have:=xr q;refine⟨?_,on h,by rw[h.ga];cases e<;>simp[gL],h.kn,λx z=>G4 h z,h.p4,h.m3,zo⟩;unfold iX;rw[Mq,mF,mF];exact(NS.mp h.nd).1
def bU(e:t=A++x::B)(h:A.length=k):(tz t)[k]?=some x:=by
 subst e h;unfold tz;rw[MS,Nj<|Ml _];simp
def rq(e:o=A++(t++B))(h:A.length=k)(O:∀z∈t,Qh z):sV o k t:=by
 intro i q;refine⟨bU (A:=A++t.take i) (B:=t.drop (i+1)++B) ?_ ?_,O _<|MX q⟩
 ·rw[e,MS]
  congr 1
  rw[<-Nl,<-MZ q,<-MS,Nb]
 ·rw[Md,Mp];lia
def D8(e:o=A++(t++B))(h:A.length=k):At o k t:=by
 intro i z O;obtain⟨q,rfl⟩:=Mc.mp O;refine bU (A:=A++t.take i) (B:=t.drop (i+1)++B) ?_ ?_
 ·rw[e,MS]
  congr 1
  rw[<-Nl,<-MZ q,<-MS,Nb]
 ·rw[Md,Mp];lia
def Bw:eC []=[]:=rfl
def j7(x:Str×Str):eC [x]=[x.1,x.2]:=rfl
def j8(x y:Str×Str)(r:Vz):eC (x::y::r)=x.1::x.2::(",":Str)::eC (y::r):=by
 unfold eC;have e:qS (x::y::r)=[x.1,x.2,","]++qS (y::r):=rfl;have t:=tR (y::r);rw[e,Md,List.take_append];have o:[x.1,x.2,(",": Str)].length+(qS (y::r)).length-1-[x.1,x.2,(",": Str)].length=(qS (y::r)).length-1:=by
  simp only[Mg]at t;simp;lia
 rw[o,Nd (by
  simp only[Mg]at t;simp;lia)]
 rfl
def uf:∀(t:Vz){A B ts:Vx}{k:Nat},ts=A++(eC t++B)->A.length=k->(∀f∈t,Qh f.1/\f.2∈ef)->vN ts k t
 |[],_,_,_,_,_,_,_=>λi h=>absurd h (by simp)
 |[x],A,B,ts,k,e,h,O=>λi L=>by
  have Y:i=0:=by simpa using L
  subst Y;rw[j7]at e;have z:=O x Mf;refine⟨bU (A:=A) (B:=x.2::B) e h,z.1,bU (A:=A++[x.1]) (B:=B) (by rw[e];simp) (by simp[h]),z.2,λD=>absurd D<|by simp⟩
 |x::y::r,A,B,ts,k,e,h,O=>λi L=>by
  rw[j8]at e;have z:=O x Mf;cases i with
  |zero=>
   refine⟨bU (A:=A) (B:=x.2::(",":Str)::(eC (y::r)++B)) (by rw[e];simp) h,z.1,bU (A:=A++[x.1]) (B:=(",":Str)::(eC (y::r)++B)) (by rw[e];simp) (by simp[h]),z.2,λ_=>bU (A:=A++[x.1,x.2]) (B:=eC (y::r)++B) (by rw[e];simp)<|by simp[h]⟩
  |succ i=>
   have q:=uf (y::r) (A:=A++[x.1,x.2,(",":Str)]) (B:=B) (ts:=ts) (k:=k+3) (by rw[e];simp) (by simp[h]) (λf I=>O f<|Mn _ I) i (by simpa using L);have e1:k+3+3*i=k+3*(i+1):=by lia
   rw[e1]at q;refine⟨q.1,q.2.1,q.2.2.1,q.2.2.2.1,λD=>q.2.2.2.2<|by simpa using D⟩
def Bx(e:t=A++(cw x++B))(h:A.length=k)(D:Qh x.name)(I:∀f∈x.fs,Qh f.1/\f.2∈ef)(z:x.fs.length<=3)(O:fE w 3 x.bd):vO t w k x:=by
 unfold cw at e;have q:=j6 x.fs;refine⟨bU (A:=A) (B:=[x.name,("(":Str)]++eC x.fs++[(")":Str)]++dz x.bd++B) (by rw[e];simp) h,
  bU (A:=A++[(Uv:Str)]) (B:=[("(":Str)]++eC x.fs++[(")":Str)]++dz x.bd++B) (by rw[e];simp) (by simp[h]),D,
  bU (A:=A++[(Uv:Str),x.name]) (B:=eC x.fs++[(")":Str)]++dz x.bd++B) (by rw[e];simp) (by simp[h]),
  uf x.fs (A:=A++[(Uv:Str),x.name,("(":Str)]) (B:=[(")":Str)]++dz x.bd++B) (by rw[e];simp) (by simp[h]) I,
  bU (A:=A++[(Uv:Str),x.name,("(":Str)]++eC x.fs) (B:=dz x.bd++B) (by rw[e];simp) (by simp[h,q];lia),z,
  D8 (A:=A++[(Uv:Str),x.name,("(":Str)]++eC x.fs++[(")":Str)]) (B:=B) (by rw[e];simp) (by simp[h,q];lia),O⟩
def G5(x:Kn):(cw x).length=yE x:=by
 unfold cw yE;simp only[Md,Mg,Mv,j6];lia
def pG:∀(l:List Kn){A t:Vx}{k:Nat},t=A++l.flatMap cw->A.length=k->(∀x∈l,Qh x.name/\(∀f∈x.fs,Qh f.1/\f.2∈ef)/\x.fs.length<=3/\fE w 3 x.bd)->mo t w k l
 |[],A,t,k,e,h,_=>by
  show k=t.length;rw[e];simp[h]
 |x::r,A,t,k,e,h,o=>by
  rw[Nz]at e;obtain⟨i,d,q,z⟩:=o x Mf;exact⟨Bx e h i d q z,pG r (A:=A++cw x) (by rw[e];simp) (by rw[Md,G5,h]) λy O=>o y<|Mn _ O⟩
def D9(h:qY D fn e):qJ (eu D) D:=by
 obtain⟨c,k,Z,t⟩:=h.kl;have ee:=xr Z;have nP:∀z∈D.places,Qh z:=λz L=>(h.nf z<|by simp[L]).1;have J:∀z∈D.marks,Qh z:=λz L=>(h.nf z<|by simp[L]).1;generalize Y:D.kinds.flatMap cw=R;have q:eu D=[(UI:Str),(toString (D.width:Int):Str),(";":Str),(Uo:Str),(toString (D.cells:Int):Str),(";":Str),(Uq:Str),(toString (D.depth:Int):Str),(";":Str),(Ul:Str)]++(D.places++([(";":Str),(Up:Str)]++(D.marks++([(";":Str),(UD:Str)]++(D.gates++([(";":Str)]++R)))))):=by
  unfold eu fV;rw[Y];simp
 refine⟨bU (A:=[]) q U,bU (A:=[(UI:Str)]) q U,bU (A:=[(UI:Str),_]) q U,bU (A:=[(UI:Str),_,(";":Str)]) q U,bU (A:=[(UI:Str),_,(";":Str),(Uo:Str)]) q U,bU (A:=[(UI:Str),_,(";":Str),(Uo:Str),_]) q U,bU (A:=[(UI:Str),_,(";":Str),(Uo:Str),_,(";":Str)]) q U,bU (A:=[(UI:Str),_,(";":Str),(Uo:Str),_,(";":Str),(Uq:Str)]) q U,bU (A:=[(UI:Str),_,(";":Str),(Uo:Str),_,(";":Str),(Uq:Str),_]) q U,bU (A:=[(UI:Str),_,(";":Str),(Uo:Str),_,(";":Str),(Uq:Str),_,(";":Str)]) q U,
  rq q U nP,?_,?_,?_,?_,?_,?_,?_,?_,⟨h.w4,h.w24⟩,⟨h.c4,h.c64⟩,h.d8,⟨h.p1,h.p4⟩,h.m3,(wq h).g1,⟨zo,zo⟩⟩
 all_goals (have O:([(UI:Str),(toString (D.width:Int):Str),(";":Str),(Uo:Str),(toString (D.cells:Int):Str),(";":Str),(Uq:Str),(toString (D.depth:Int):Str),(";":Str),(Ul:Str)]:Vx).length=10:=rfl)
 all_goals (generalize ([(UI:Str),(toString (D.width:Int):Str),(";":Str),(Uo:Str),(toString (D.cells:Int):Str),(";":Str),(Uq:Str),(toString (D.depth:Int):Str),(";":Str),(Ul:Str)]:Vx)=W at*)
 ·exact bU (A:=W++D.places) (B:=(Up:Str)::(D.marks++([(";":Str),(UD:Str)]++(D.gates++([(";":Str)]++R))))) (by rw[q];simp) (by simp[O])
 ·exact bU (A:=W++D.places++[(";":Str)]) (B:=D.marks++([(";":Str),(UD:Str)]++(D.gates++([(";":Str)]++R)))) (by rw[q];simp) (by simp[O];lia)
 ·exact rq (A:=W++D.places++[(";":Str),(Up:Str)]) (B:=[(";":Str),(UD:Str)]++(D.gates++([(";":Str)]++R))) (by rw[q];simp) (by simp[O];lia) J
 ·exact bU (A:=W++D.places++[(";":Str),(Up:Str)]++D.marks) (B:=(UD:Str)::(D.gates++([(";":Str)]++R))) (by rw[q];simp) (by simp[O];lia)
 ·exact bU (A:=W++D.places++[(";":Str),(Up:Str)]++D.marks++[(";":Str)]) (B:=D.gates++([(";":Str)]++R)) (by rw[q];simp) (by simp[O];lia)
 ·exact rq (A:=W++D.places++[(";":Str),(Up:Str)]++D.marks++[(";":Str),(UD:Str)]) (B:=[(";":Str)]++R) (by rw[q];simp) (by simp[O];lia) (λz L=>J z<|on h z L)
 ·exact bU (A:=W++D.places++[(";":Str),(Up:Str)]++D.marks++[(";":Str),(UD:Str)]++D.gates) (B:=R) (by rw[q];simp) (by simp[O];lia)
 ·subst Y;refine pG D.kinds (A:=W++D.places++[(";":Str),(Up:Str)]++D.marks++[(";":Str),(UD:Str)]++D.gates++[(";":Str)]) (by rw[q];simp) (by simp[O];lia) (λx I=>⟨(h.kf x I).1,λf G=>⟨((xG h I).f f G).1,wl h I f G⟩,om h I,wk h I⟩)
end
def lE(q:s=[]\/∃c r,s=c::r/\TK.gU c=true):∀e:List (Vy),e≠[]->(∀t∈e,TK.Tok t)->TK.toks (TK.jn [32] e++s)=e++TK.toks s
 |[],h,_=>absurd U h
 |[t],_,h=>TK.sB (h t Mf) q
 |t::u::r,_,h=>by
  have O:=lE q (u::r) (by simp) (λx z=>h x<|Mn _ z);show TK.toks ((t++(32::TK.jn [32] (u::r)))++s)=_;rw[MS,Nl,TK.sB (h t Mf)<|.inr ⟨32,_,rfl,rfl⟩,TK.mX<|show TK.gU 32=true from rfl,O];rfl
def oq:∀z:List (List<|Vy),(∀g∈z,g≠[]/\∀t∈g,TK.Tok t)->TK.toks (TK.jn [10]<|z.map<|TK.jn [32])=z.flatten
 |[],_=>rfl
 |[g],h=>by
  have q:=h g Mf;have:=lE (s:=[]) (.inl U) g q.1 q.2;rw[MM]at this;show TK.toks (TK.jn [32] g)=_;rw[this];simp[TK.sx]
 |g::k::r,h=>by
  have q:=h g Mf;have I:=oq (k::r) (λx O=>h x<|Mn _ O);show TK.toks (TK.jn [32] g++(10::TK.jn [10] ((k::r).map<|TK.jn [32])))=_;rw[lE (.inr ⟨10,_,rfl,rfl⟩) g q.1 q.2,TK.mX<|show TK.gU 10=true from rfl,I];rfl
def Ea(D:Fm):List (Vx):=fV D::D.kinds.map cw
def wt(D:Fm):∀g∈Ea D,g≠[]:=by
 intro g q;rcases Mo.mp q with rfl|q
 ·simp[fV]
 ·obtain⟨x,_,rfl⟩:=MQ.mp q;simp[cw]
def j9(D:Fm):(Ea D).flatten=eu D:=by
 unfold Ea eu;rw[NV,List.flatMap_def]
def xI(D:Fm):jT D D.kinds=(Ea D).map ar:=by
 unfold jT Ea;rw[Mz,M8];rfl
def yR(h:∀z∈eu D,QQ z):TK.toks (gR D)=(eu D).map cp:=by
 unfold gR;rw[xI];have:=oq ((Ea D).map λg=>g.map cp) (λg I=>by
  obtain⟨O,q,rfl⟩:=MQ.mp I;refine⟨by simpa using wt D O q,λt L=>?_⟩;obtain⟨z,Y,rfl⟩:=MQ.mp L;exact(h z<|by rw[<-j9];exact List.mem_flatten.mpr ⟨O,q,Y⟩).tok)
 rw[M8]at this;have e:((Ea D).map λg=>g.map cp).flatten=(eu D).map cp:=by
  rw[<-j9,List.map_flatten]
 rw[e]at this;exact this
def Le(h:QQ z)(q:TK.gU c=true):c∉cp z:=λO=>by
 have:=h.tok.ng c O;rw[q]at this;cases this
def By(q:c∉sep):∀{ts:List (Vy)},(∀t∈ts,c∉t)->c∉TK.jn sep ts
 |[],_=>by simp[TK.jn]
 |[t],h=>h t Mf
 |t::u::r,h=>by
  have O:=By q (ts:=u::r) (λx z=>h x<|Mn _ z);show c∉t++(sep++TK.jn sep (u::r));rw[MC,MC];rintro(e|e|e)
  ·exact h t Mf e
  ·exact q e
  ·exact O e
def yS(h:∀z∈e,QQ z):10∉ar e:=by
 unfold ar;refine By zd λt q=>?_;obtain⟨z,O,rfl⟩:=MQ.mp q;exact Le (h z O) rfl
def Bz(h:e≠[])(z:∀t∈e,t≠[]):TK.jn sep e≠[]:=by
 cases e with
 |nil=>exact absurd U h
 |cons t r=>
  have q:=z t Mf;cases r with
  |nil=>exact q
  |cons u r=>
   show t++_≠[];simp[q]
def Eb(h:e≠[])(O:∀z∈e,QQ z):ar e≠[]:=by
 unfold ar;refine Bz (by simpa using h) λt q=>?_;obtain⟨z,I,rfl⟩:=MQ.mp q;exact(O z I).tok.ne
def yT(h:∀z∈eu D,QQ z):Txt.replace (S<|gR D) (S [10]) (S [32])=S (ar<|eu D):=by
 have O:∀g∈Ea D,∀z∈g,QQ z:=λg O z L=>h z (by rw[<-j9];exact List.mem_flatten.mpr ⟨g,O,L⟩);have e:=StrLaws.replace_one (S<|gR D) (S [32]) 10;have e1:(⟨#[10]⟩:Str)=S [10]:=rfl;rw[e1]at e;rw[e];unfold gR;rw[xI,AU 10 _ ?_ ?_,iq,gz _<|wt D,j9]
 ·refine Bz (by simp[Ea]) λt I=>?_;obtain⟨g,q,rfl⟩:=MQ.mp I;exact Eb (wt D g q) (O g q)
 ·intro t I;obtain⟨g,q,rfl⟩:=MQ.mp I;exact yS (O g q)
def rB(z:Str):(cp z).length=z.length:=by unfold cp;simp[Str.length]
def BA(h:∀z∈eu D,QQ z)(q:(eu D).length<=1500):(gR D).length<=15000:=by
 have e:(gR D).length=(ar<|eu D).length:=by
  have:=e_ (λz=>(cp z).length) (yT h);simp only[gM]at this;rw[<-this,rB];have:=zS (S<|gR D) 10 32;have e1:(⟨#[10]⟩:Str)=S [10]:=rfl;have e2:(⟨#[32]⟩:Str)=S [32]:=rfl;rw[e1,e2]at this;rw[this,aQ]
 have t:=bT h;lia
def xJ(h:e≠[]):eC e≠[]:=by
 cases e with
 |nil=>exact absurd U h
 |cons x r=>
  cases r with
  |nil=>rw[j7];simp
  |cons y r=>rw[j8];simp
def oR(e:Vz):List (Vy):=e.map λx=>cp x.1++(32::cp x.2)
def BB:∀t:Vz,TK.jn [32,44,32] (oR t)=ar (eC t)
 |[]=>rfl
 |[x]=>by
  rw[j7,bF (by simp),df];rfl
 |x::y::r=>by
  have q:=BB (y::r);show TK.jn [32,44,32] ((cp x.1++(32::cp x.2))::oR (y::r))=_;rw[iL (by simp[oR]),q,j8,bF (by simp),bF (by simp),bF<|xJ<|by simp];have e:cp (",":Str)=[44]:=by decide +kernel
  rw[e];simp
def BC(I:H l=some (.lst<|dR t))(O:H b=some (.lst<|dR o))(D:t.length+o.length<=1000000)(q:∀c z,P4 H z->H c=none->z c=some (.lst<|dR<|t++o)->Q (.ref c) z):C4 (.ref l) (.ref b) H Q:=by
 rw[nU]at I O;refine xj I O (by simpa using D) λc z s n e=>q c z s n ?_;rw[nU,Mq];exact e
def Lf:(" , ":Str)=S [32,44,32]:=by decide +kernel
def lF:∀{e:List α}{o:List β},Paired R e o->e.length=o.length
 |_,_,.nil=>rfl
 |_,_,.cons _ t=>by rw[Mg,Mg,lF t]
def Ec(f:Str×Str)(e:Qh f.1)(t:f.2∈ef):f.1.length<=8/\f.2.length<=8:=by
 have:∀z∈ef,z.length<=8:=by decide +kernel
 exact⟨e.2.2.1,this _ t⟩
def Lg(f:Str×Str):(f.1++(" ":Str)=S (cp f.1++[32]))/\(S (cp f.1++[32])++f.2=S (cp f.1++(32::cp f.2))):=by
 have e1:=gK f.1;have e2:=gK f.2;constructor
 ·rw[qR];conv=>lhs;rw[<-e1]
  rw[cE]
 ·conv=>lhs;rw[<-e2]
  rw[cE]
  congr 1
  simp
def pH(t:Vz):(S (ar<|eC t)=("":Str))↔t=[]:=by
 constructor
 ·intro h;by_cases e:t=[]
  ·exact e
  ·exfalso;have o:=e_ cp h;rw[gM]at o;have q:cp ("":Str)=[]:=by decide +kernel
   rw[q]at o;cases t with
   |nil=>exact e rfl
   |cons x r=>
    have z:ar (eC (x::r))=cp x.1++(32::ar ((eC (x::r)).tail)):=by
     cases r with
     |nil=>rw[j7,bF<|by simp];rfl
     |cons y r=>rw[j8,bF<|by simp];rfl
    rw[z]at o;simp at o
 ·rintro rfl;decide +kernel
def ot(D:Fm):List (Vx):=[[UI,(toString (D.width:Int):Str)],[Uo,(toString (D.cells:Int):Str)],[Uq,(toString (D.depth:Int):Str)],(Ul:Str)::D.places,(Up:Str)::D.marks,(UD:Str)::D.gates]
def Ef(D:Fm):TK.jn [32] ((ot D).map λg=>ar<|g++[(";":Str)])=ar (fV D):=by
 have h:=gz ((ot D).map λg=>g++[(";":Str)]) (by
  intro g q;obtain⟨z,_,rfl⟩:=MQ.mp q;simp)
 rw[M8]at h;have e:((ot D).map λg=>g++[(";":Str)]).flatten=fV D:=by
  unfold ot fV;simp
 rw[e]at h;exact h
def uh(e:Vz):List (Vx):=if e=[]then []else [eC e]
def Eg(x:Kn):TK.jn [32] ([cp Uv,cp x.name,cp "("]++(uh x.fs).map ar++[cp ")"]++[ar<|dz x.bd])=ar (cw x):=by
 have h:=gz ([[(Uv:Str)],[x.name],[("(":Str)]]++uh x.fs++[[(")":Str)]]++[dz x.bd]) (by
  intro g q;simp only[MC,Mo,Mu,l_]at q;rcases q with((((rfl|rfl|rfl)|q)|rfl)|rfl)
  ·simp
  ·simp
  ·simp
  ·unfold uh at q;split at q
   ·cases q
   ·rw[MJ.mp q];exact xJ (by assumption)
  ·simp
  ·exact oh _)
 have e:([[(Uv:Str)],[x.name],[("(":Str)]]++uh x.fs++[[(")":Str)]]++[dz x.bd]).flatten=cw x:=by
  unfold cw uh;split
  ·rename_i z;rw[z,Bw];simp
  ·simp
 rw[e]at h;rw[<-h];simp only[Mq,Mz,Ny];rfl
def BE(e:Vx)(q:Option Nat)(i:Nat):Vx:=match q with
 |none=>[]
 |some g=>if g<i then [e.getD g ""]else []
def BF(h:∀g,t=some g->g<e.length):BE e t e.length=gL e t:=by
 cases t with
 |none=>rfl
 |some g=>show(if g<e.length then _ else _)=_;rw[g_<|h g U];rfl
def pI(h:t[i]?=some z):BE t o (i+1)=BE t o i++(if decide (V.int (i:Nat)=gV o)=true then [z]else []):=by
 cases o with
 |none=>
  have:decide (V.int (i:Nat)=gV none)=false:=c_ λe=>by cases e
  rw[this];rfl
 |some g=>
  show(if g<i+1 then [t.getD g ""]else [])=(if g<i then [t.getD g ""]else [])++_;by_cases e:i=g
  ·subst e;rw[g_ zo,f_ zo,g_<|show decide (V.int (i:Nat)=gV (some i))=true from b_ U,MI,h];rfl
  ·have:decide (V.int (i:Nat)=gV (some g))=false:=c_ λq=>e (by have:=V.int.inj q;lia);rw[this];by_cases r:g<i
   ·rw[g_ zo,g_ r];simp
   ·rw[f_ zo,f_ r];simp
def rC{n:Nat}(h:n<=1000):(toString (n:Int):Str).length<=8:=by
 rw[jm,aQ];exact(ip n).2 8 zd zo
def rD(h:a=S (l++[32]))(q:l=cp (S l))(z:Str):a++z=S (ar [S l,z]):=by
 rw[bF (by simp),df,h];have e:z=S (cp z):=(gK z).symm;rw[e,cE,gM,gM]
 congr 1
 simp
def G6:("word ":Str)=S ([119,111,114,100]++[32])/\("cells ":Str)=S ([99,101,108,108,115]++[32])/\("depth ":Str)=S ([100,101,112,116,104]++[32]):=by decide +kernel
def G7:S [119,111,114,100]=(UI:Str)/\S [99,101,108,108,115]=(Uo:Str)/\S [100,101,112,116,104]=(Uq:Str):=by decide +kernel
inductive rE(vs:VA)(H:Hp)(Q:VK)(i:XK):Prop
 |mk(d D o e f m r p fn:_):vs=[.ref d]->Sa H d D o e f m r p->qY D fn o->(∀t,P4 H t->Q (.str<|S<|gR D) t)->rE vs H Q i
def Sa.same(h:Sa H d D r t v p f o)(s:P4 H i):Sa i d D r t v p f o:=
 ⟨s _ _ h.ed,h.v1,h.v2,h.v3,h.v4,h.v5,h.v6,h.v7,s _ _ h.ep,s _ _ h.em,s _ _ h.ek,bq (λ_ _ m=>RS.kp (ak s) (λx o nx j e _=>s _ _ e) m) h.ks⟩
section
def Qu:ax [Ug,Ve,U0,Ux,Uf,Uu,U_,U1] [Ug] (aj jk):=cP zk
def Ft:([UR,Ux,Ug]:Vx).Nodup:=by decide +kernel
def Jr:(["_law_part"]:Vx).Nodup:=by decide +kernel
def Js:(["_law_field",Uy]:Vx).Nodup:=by decide +kernel
inductive BG(d:Vr)(H:Hp)(D:Fm)(t:St)(e:Hp):Prop
 |mk(lh:_):t=[some<|.ref d,some<|.ref lh,none,none,none,none,none,none]->P4 H e->e lh=some (.lst<|dR<|((ot D).take 3).map ar)->BG d H D t e
inductive BH(d:Vr)(H:Hp)(D:Fm)(t:St)(e:Hp):Prop
 |mk(lh:_):t=[some<|.ref d,some<|.ref lh,none,none,none,none,none,none]->P4 H e->H lh=none->e lh=some (.lst<|dR<|((ot D).take 5).map ar)->BH d H D t e
inductive BI(d:Vr)(H:Hp)(D:Fm)(t:St)(e:Hp):Prop
 |mk(lh:_):t=[some<|.ref d,some<|.ref lh,none,none,none,none,none,none]->P4 H e->e lh=some (.lst<|dR<|(ot D).map ar)->BI d H D t e
inductive BJ(d:Vr)(H:Hp)(D:Fm)(t:St)(e:Hp):Prop
 |mk(lh lr:_):t=[some<|.ref d,some<|.ref lh,some<|.ref lr,none,none,none,none,none]->P4 H e->H lr=none->e lr=some (.lst<|dR<|jT D [])->BJ d H D t e
def BL(F:Qj K "_law_text" "_law_text" jk f fd)(B:Bl mg)(B3:Ff mg)(DT:Fn P w K mg base "_law_deed_text" n [Uu,Ug,Uf] (xD 4))(hn:1<=n):P7 P w K mg base ce (n+1) f fd [Ug] rE:=by
 have ZZ:=Qu
 walk_at "o"
 ·obtain⟨d,D,C,kvs,lp,lm,lk,us,fn,rfl,Y,L,q⟩:=h;have p:=eE hr;have sz:(200000:Nat)<=sizeLine:=by decide
  refine⟨_,bH (BG d H D) (bP 1 Qu.nd<|aM<|du (az aH ah<|aU fe (by rfl) B.str eP<|aV<|bv p (pv 0) ah) (az aH ah<|aU fe (by rfl) B.str eP<|aV<|bv p (pv 0) ah)<|az aH ah<|aU fe (by rfl) B.str eP<|aV<|bv p (pv 0) ah)
   (bH (BH d H D) (bP 1 Qu.nd<|az eK (pv 1)<|aM<|bj (cx M5 Na M9 fg ah<|aV<|az eK (aM<|aV ah)<|bv p (pv 0) ah)<|cx M5 Na M9 fg ah<|aV<|az eK (aM<|aV ah)<|bv p (pv 0) ah)
   (bH (BI d H D) (aL<|cx Mw My Mx bu (pv 1)<|aV<|cx M5 Na M9 fg ah<|aV<|az eK (aM<|aV ah) (gu (N':=[UR,Ux,Ug]) (ix:=[none,none,some 0]) (sc0:=aj jk) (N:=[Ug,Ve,U0,Ux,Uf,Uu,U_,U1]) U zk (jI U B3.enumerate<|aV<|bv p (pv 0) ah)
     (λC' cl s H fp=>ej (K:=K) (n:=2) U U<|aq (gZ (i:=0) Ft)<|aq (gZ (i:=1) Ft) bi) (λ_ _ _ _ _=>ie<|bY aR (pv 0)<|bv p (pv 2) ah) (λC' cl s H fp=>pv 1)))
   (bH (BJ d H D) (bP 2 Qu.nd<|aM<|aV<|cx M5 Na M9 fg ah<|aV (gu (N':=["_law_part"]) (ix:=[none]) (sc0:=aj jk) (N:=[Ug,Ve,U0,Ux,Uf,Uu,U_,U1]) U zk (cW<|pv 1)
     (λC' cl s H fp=>gZ (i:=0) Jr) (λ_ _ _ _ _=>eM) (λC' cl s H fp=>az aH (pv 0) ah)))
   (ae (cU h_ U (cW<|bv p (pv 0) ah) (cA U<|aq (eQ 3 Qu.nd)<|aq (eQ 4 Qu.nd)<|aq (eQ 5 Qu.nd) bi)
    (ae (bP 6 Qu.nd<|cx M5 Na M9 fg ah<|aV (gu (N':=["_law_field",Uy]) (ix:=[none,none]) (sc0:=aj jk) (N:=[Ug,Ve,U0,Ux,Uf,Uu,U_,U1]) U zk (cW<|pv 4)
      (λC' cl s H fp=>ej (K:=K) (n:=2) U U<|aq (gZ (i:=0) Js)<|aq (gZ (i:=1) Js) bi) (λ_ _ _ _ _=>eM) (λC' cl s H fp=>az aH (az aH (pv 0) ah)<|pv 1)))
    (ae (bP 7 Qu.nd<|az eK (az eK (aM<|du ah (pv 3) ah) (gu (N':=["_law_part"]) (ix:=[none]) (sc0:=aj jk) (N:=[Ug,Ve,U0,Ux,Uf,Uu,U_,U1]) U zk (cW<|aM<|aV<|pv 6)
      (λC' cl s H fp=>gZ (i:=0) Jr) (λ_ _ _ _ _=>ie<|bY mP (pv 0) ah) (λC' cl s H fp=>pv 0)))<|aM<|aV ah)
    (ai<|aL<|cx Mw My Mx bu (pv 2)<|aV<|cx M5 Na M9 fg ah<|aV<|az eK (pv 7)<|aM<|aV<|ap DT hr U<|du (pv 5) (pv 0)<|pv 4))))
   (ai<|ao<|cx M5 Na M9 fg ah<|aV<|pv 2))))),?_⟩
  have Wo:=L.c64;have tr:=L.w24;have Z2:=L.d8;refine⟨?_,?_⟩;rotate_left
  ·have z1:=rC (n:=D.width) zo;have z2:=rC (n:=D.cells) zo;have z3:=rC (n:=D.depth) zo;have y1:("word ":Str).length=5/\("cells ":Str).length=6/\("depth ":Str).length=6:=by decide +kernel
   refine⟨_,U,d,_,U,bD Y.ed Y.v1,_,U,iJ zo,_,_,U,U,zo,_,U,d,_,U,bD Y.ed Y.v2,_,U,iJ zo,_,_,U,U,zo,_,U,d,_,U,bD Y.ed Y.v3,_,U,iJ zo,_,_,U,U,zo,Qa,λlh el=>⟨lh,U,ag el,?_⟩⟩;rw[aa]
   congr 2
   have t1:=rD G6.1 U (toString (D.width:Int):Str);have t2:=rD G6.2.1 U (toString (D.cells:Int):Str);have t3:=rD G6.2.2 U (toString (D.depth:Int):Str);rw[G7.1]at t1;rw[G7.2.1]at t2;rw[G7.2.2]at t3;rw[t1,t2,t3];rfl
  intro σ H1 z;obtain⟨lh,rfl,X,e1⟩:=z;have YV:=L.p4;have ZU:=L.m3;have ee:∀z∈D.places++D.marks,QQ z:=λz O=>.name (L.nf z<|by rcases MC.mp O with h|h<;>simp[h]).1;refine⟨?_,?_⟩;rotate_left
  ·have V1:=Y.same X;have jb:∀(w:Str)(zs:Vx),QQ w->(∀z∈zs,QQ z)->zs.length<=10->(((w::zs).map cp).map List.length).sum+((w::zs).map cp).length*[32].length<=100000:=by
    intro w zs hw O hl;exact(tU (zs:=w::zs) (by simp;lia) λz W_=>by
     rcases Mo.mp W_ with rfl|h
     ·have:=hw.le;lia
     ·have:=(O z h).le;lia).1
   refine⟨_,U,U,Qa,λl2 n2=>?_⟩;generalize I:aB H1 l2 _=H2;have v:=(nw n2 I).1;have e2:H2 l2=some (.lst<|am [Ul]):=(nw n2 I).2;clear I;have V2:=V1.same v;refine⟨_,U,d,_,U,bD V2.ed V2.v4,xj e2 V2.ep (by simp;lia) λl3 H3 R n3 e3=>?_⟩;have e0:H3 l3=some (.lst<|dR<|((Ul:Str)::D.places).map cp):=by rw[nR];exact e3
   refine⟨[32],l3,_,e_ V.str qR,U,P8.of e0,jb _ _ (.word zk) (λz O=>ee z<|by simp[O]) zo,U,Qa,λl4 n4=>?_⟩;generalize I:aB H3 l4 _=H4;have s4:=(nw n4 I).1;have e4:H4 l4=some (.lst<|am [Up]):=(nw n4 I).2;clear I;have V4:=(V2.same R).same s4;refine⟨_,U,d,_,U,bD V4.ed V4.v5,xj e4 V4.em (by simp;lia) λl5 H5 s5 n5 e5=>?_⟩;have ea:H5 l5=some (.lst<|dR<|((Up:Str)::D.marks).map cp):=by rw[nR];exact e5
   refine⟨[32],l5,_,e_ V.str qR,U,P8.of ea,jb _ _ (.word zk) (λz O=>ee z<|by simp[O]) zo,Qa,λl6 n6=>?_⟩;have s6:=ag (o:=.lst (dR [ar ((Ul:Str)::D.places),ar ((Up:Str)::D.marks)])) n6;have e6:(aB H5 l6<|.lst<|dR [ar ((Ul:Str)::D.places),ar ((Up:Str)::D.marks)]) l6=some (.lst<|dR [ar ((Ul:Str)::D.places),ar ((Up:Str)::D.marks)]):=aa;have ec:=(((v.trans R).trans s4).trans s5).trans s6;refine⟨lh,l6,_,_,U,U,ec _ _ e1,e6,by rw[eo,eo];simp[ot];lia,λl7 n7=>?_⟩;refine⟨l7,U,(X.trans ec).trans<|ag n7,(X.trans ec).free n7,?_⟩;rw[aa];rfl
  intro σ H1 z;obtain⟨lh,rfl,X,el,e1⟩:=z;refine⟨?_,?_⟩;rotate_left
  ·have V1:=Y.same X;refine⟨_,U,.inl ⟨U,_,P8.of e1⟩,U,Qa,λl2 n2=>?_⟩;generalize I:aB H1 l2 _=H2;have v:=(nw n2 I).1;have e2:H2 l2=some (.lst<|am [UD]):=(nw n2 I).2;clear I;have V2:=V1.same v;refine⟨_,U,d,_,U,bD V2.ed V2.v5,lm,U,⟨_,P8.of V2.em⟩,?_⟩;refine jV (K:=K) (l:=lm) (xs:=am D.marks) (λi r m=>P4 H2 m/\r=am (BE D.marks C i)) ⟨P4.refl _,by cases C<;>rfl⟩ (λi r m hi⟨s',e'⟩=>⟨P8.of<|s' _ _ V2.em,by
     rw[e',dc];have:(BE D.marks C i).length<=1:=by
      cases C with
      |none=>exact MR _
      |some g=>show(if g<i then _ else _:Vx).length<=1;split<;>simp
     lia⟩) ?_ ?_
   ·rintro i x r H3 T1 Z nT ⟨R,rfl⟩;obtain⟨z,O,rfl⟩:=xn Z;have Oh:=(Mc.mp Z).1;have s4:=ag (o:=.tup [.int (i:Int),.str z]) nT;have V4:=(V2.same R).same s4;refine⟨T1,_,U,P5.of aa,U,_,_,U,_,_,U,U,⟨U,trivial⟩,?_⟩;have X8:zj (V.int (i:Int)) (gV C)=true:=by cases C<;>rfl
    refine⟨_,U,_,U,d,_,U,bD V4.ed V4.v6,X8,_,U,bE (λh=>?_) λh=>?_⟩
    ·refine⟨_,U,Nx.mk Oh ⟨R.trans s4,?_⟩⟩;have h':decide (V.int (i:Nat)=gV C)=true:=h;rw[pI O,g_ h',<-tQ];rfl
    ·refine Nx.mk Oh ⟨R.trans s4,?_⟩;have h':¬decide (V.int (i:Nat)=gV C)=true:=h;rw[pI O,f_ h',MM]
   ·rintro r H3 ⟨R,rfl⟩ l4 n4;rw[dc,BF L.gb,<-L.ga];generalize I:aB H3 l4 _=H4;have s4:=(nw n4 I).1;have e4:H4 l4=some (.lst<|am D.gates):=(nw n4 I).2;clear I;have tf:D.gates.length<=1:=by rw[L.ga];cases C<;>simp[gL]
    have es:∀z∈D.gates,QQ z:=by
     intro z O;rw[L.ga]at O;cases VP:C with
     |none=>rw[VP]at O;cases O
     |some g=>
      rw[VP]at O;have YX:=L.gb g VP;rw[MJ.mp O,MI,Mi YX];exact ee _ (Mj _<|MX YX)
    refine xj ((R.trans s4) _ _ e2) e4 (by simp;lia) λl5 H5 s5 n5 e5=>?_;have ea:H5 l5=some (.lst<|dR<|((UD:Str)::D.gates).map cp):=by rw[nR];exact e5
    refine⟨[32],l5,_,e_ V.str qR,U,P8.of ea,(tU (zs:=(UD:Str)::D.gates) (by simp;lia) λz W_=>by
     rcases Mo.mp W_ with rfl|h
     ·decide +kernel
     ·have:=(es z h).le;lia).1,?_⟩
    have ez:=((v.trans R).trans s4).trans s5;refine⟨lh,_,_,U,U,ez _ _ e1,by rw[eo];simp[ot];lia,lh,U,c7 el<|X.trans ez,?_⟩;rw[aa];rfl
  intro σ H1 z;obtain⟨lh,rfl,X,e1⟩:=z;have ew:∀g∈ot D,(ar g).length<=100:=by
   intro g J;have hk:g.length<=10/\∀z∈g,QQ z:=by
    have tn:D.gates.length<=1:=by rw[L.ga];cases C<;>simp[gL]
    have es:∀z∈D.gates,QQ z:=by
     intro z O;rw[L.ga]at O;cases VP:C with
     |none=>rw[VP]at O;cases O
     |some g=>
      rw[VP]at O;have YX:=L.gb g VP;rw[MJ.mp O,MI,Mi YX];exact ee _ (Mj _<|MX YX)
    unfold ot at J;simp only[Mo,Mu,l_]at J;rcases J with rfl|rfl|rfl|rfl|rfl|rfl
    ·refine⟨by simp,λz O=>?_⟩;simp only[Mo,Mu,l_]at O;rcases O with rfl|rfl
     ·exact .word zk
     ·exact .num zo
    ·refine⟨by simp,λz O=>?_⟩;simp only[Mo,Mu,l_]at O;rcases O with rfl|rfl
     ·exact .word zk
     ·exact .num zo
    ·refine⟨by simp,λz O=>?_⟩;simp only[Mo,Mu,l_]at O;rcases O with rfl|rfl
     ·exact .word zk
     ·exact .num zo
    ·refine⟨by simp;lia,λz O=>?_⟩;rcases Mo.mp O with rfl|h
     ·exact .word zk
     ·exact ee z (by simp[h])
    ·refine⟨by simp;lia,λz O=>?_⟩;rcases Mo.mp O with rfl|h
     ·exact .word zk
     ·exact ee z (by simp[h])
    ·refine⟨by simp;lia,λz O=>?_⟩;rcases Mo.mp O with rfl|h
     ·exact .word zk
     ·exact es z h
   have:=bT hk.2;lia
  refine⟨?_,?_⟩;rotate_left
  ·refine⟨U,_,U,lh,U,⟨_,P8.of e1⟩,?_⟩;refine gE (K:=K) (a:=lh) (xs:=dR ((ot D).map ar)) (λi r m=>m=H1/\r=dR (((ot D).take i).map λg=>ar<|g++[(";":Str)])) ⟨U,U⟩ (λi r m hi⟨a1,a2⟩=>by
     subst a1 a2;refine⟨P8.of e1,?_⟩;rw[eo,Me,Mp];simp[ot];lia) ?_ ?_
   ·rintro i x r H2 Z ⟨rfl,rfl⟩;obtain⟨g,J,rfl⟩:∃g,(ot D)[i]?=some g/\x=.str (S<|ar g):=by
     unfold dR at Z;rw[Mt,Mt]at Z;cases e:(ot D)[i]? with
     |none=>rw[e]at Z;cases Z
     |some g=>rw[e]at Z;exact⟨g,U,(MN Z).symm⟩
    have Oh:=(Mc.mp Z).1;have YX:=ew g (Mr J);have er:g≠[]:=by
     have hm:=Mr J;unfold ot at hm;simp only[Mo,Mu,l_]at hm;rcases hm with rfl|rfl|rfl|rfl|rfl|rfl<;>simp
    refine⟨trivial,eO ?_⟩;refine⟨_,U,_,_,U,e_ V.str lP.2.2.2.2.2.2,by rw[aQ,aQ];simp;lia,?_⟩;rw[cE];refine Nx.mk Oh ⟨U,?_⟩;rw[MW,J,Mq];unfold dR;rw[Mq];have e9:ar (g++[(";":Str)])=ar g++[32,59]:=by
     rw[eX er (by simp),df];have:cp (";":Str)=[59]:=by decide +kernel
     rw[this]
    show _++[V.str<|S<|ar g++[32,59]]=_++[V.str<|S<|ar<|g++[(";":Str)]];rw[e9]
   ·rintro r H2 ⟨rfl,rfl⟩ l3 n3;have e6:(dR<|(ot D).map ar).length=(ot D).length:=by rw[eo,Me]
    rw[e6,MD];generalize I:aB H2 l3 _=H3;have R:=(nw n3 I).1;have e3:H3 l3=some (.lst<|dR<|(ot D).map λg=>ar<|g++[(";":Str)]):=(nw n3 I).2;clear I;refine⟨[32],l3,_,e_ V.str qR,U,P8.of e3,?_,Qa,λlr et=>?_⟩
    ·have:=jp 110 ((ot D).map λg=>ar<|g++[(";":Str)]) (λt M=>by
      obtain⟨g,J,rfl⟩:=MQ.mp M;have h1:=ew g J;have er:g≠[]:=by
       unfold ot at J;simp only[Mo,Mu,l_]at J;rcases J with rfl|rfl|rfl|rfl|rfl|rfl<;>simp
      rw[eX er (by simp),df];have:cp (";":Str)=[59]:=by decide +kernel
      rw[this];simp;lia)
     have h6:((ot D).map λg=>ar<|g++[(";":Str)]).length=6:=rfl;rw[h6]at this⊢;simp only[Mg,Mv];lia
    ·have s4:=ag (o:=.lst [V.str<|S<|ar<|fV D]) et;have eh:=Ef D;refine⟨lh,lr,U,?_,?_,?_⟩
     ·rw[eh];exact(X.trans R).trans s4
     ·exact(X.trans R).free et
     ·rw[aa,eh];rfl
  intro σ H1 z;obtain⟨lh,lr,rfl,X,et,e1⟩:=z;obtain⟨mc,mk,Zs,e7⟩:=L.kl;have tv:=xr Zs;have V1:=Y.same X;have ei:=oj L;refine⟨_,U,d,_,U,bD V1.ed V1.v7,lk,U,⟨_,P8.of V1.ek⟩,?_⟩;refine jC (K:=K) (a:=lk) (xs:=us) (λi σ m=>∃v3 v4 v5 v6 v7:Option V,σ=[some<|.ref d,some<|.ref lh,some<|.ref lr,v3,v4,v5,v6,v7]/\P4 H m/\m lr=some (.lst<|dR<|jT D<|D.kinds.take i)) ⟨_,_,_,_,_,U,X,e1⟩ (λi σ m _ I=>by obtain⟨_,_,_,_,_,_,s',_⟩:=I;exact P8.of (s' _ _ Y.ek)) ?_ ?_
  ·intro i y σ H2 hy z;obtain⟨v3,v4,v5,v6,v7,rfl,v,e2⟩:=z;obtain⟨x,Z,t,lf,b,rfl,Xa,M,⟨fu,Wn,en⟩,hb⟩:=fh Y.ks hy;have W2:=Mr Z;have Zm:=(Mc.mp Z).1;have G:=xG L W2;have P':=wl L W2;have tm:=om L W2;have hK:=e7 x W2;refine⟨t,_,U,P5.of<|v _ _ M,U,_,_,U,_,_,U,_,_,U,U,?_⟩;refine yu (t:=uG _ _) λD1 N1=>?_;refine put λD2 N=>?_;refine⟨U,_,U,lf,U,⟨_,P8.of<|v _ _ Wn⟩,?_⟩;have XI:∀f∈x.fs,f.1.length<=8/\f.2.length<=8:=λf hf=>Ec f (G.f f hf).1 (P' f hf);have K':=lF en;refine gE (K:=K) (a:=lf) (xs:=fu) (λj r m=>m=H2/\r=dR (oR<|x.fs.take j)) ⟨U,U⟩ (λj r m hj⟨a1,a2⟩=>by
     subst a1 a2;refine⟨P8.of<|v _ _ Wn,?_⟩;rw[eo];unfold oR;rw[Me,Mp];lia) ?_ ?_
   ·rintro j u r H3 p ⟨rfl,rfl⟩;obtain⟨f,hf,pf,rfl,Wa⟩:=fh en p;have Ya:=(Mc.mp p).1;obtain⟨l1,l2⟩:=XI f (Mr hf);obtain⟨E1,E2⟩:=Lg f;have Ww:(" ":Str).length=1:=by decide +kernel
    refine⟨pf,_,U,P5.of<|v _ _ Wa,U,_,_,U,_,_,U,U,trivial,eO ?_⟩;refine⟨_,U,_,_,U,U,zo,_,U,S<|cp f.1++[32],f.2,e_ V.str E1,U,by rw[aQ,Md,rB];simp;lia,?_⟩;rw[E2];refine Nx.mk Ya ⟨U,?_⟩;rw[MW,hf];unfold oR dR;simp
   ·rintro r H3 ⟨rfl,rfl⟩ l3 n3;rw[K',MD];generalize I:aB H3 l3 _=H4;have R:=(nw n3 I).1;have e3:H4 l3=some (.lst<|dR<|oR x.fs):=(nw n3 I).2;clear I;refine⟨[32,44,32],l3,_,e_ V.str Lf,U,P8.of e3,?_,?_⟩
    ·have:=jp 17 (oR x.fs) (λt M=>by
      obtain⟨f,hf,rfl⟩:=MQ.mp M;obtain⟨l1,l2⟩:=XI f hf;rw[Md,Mg,rB,rB];lia)
     have XV:(oR x.fs).length=x.fs.length:=by unfold oR;rw[Me]
     rw[XV]at this⊢;simp only[Mg,Mv];lia
    rw[BB];refine N _ _ ?_;clear N D2;refine put λD2 N=>?_;refine⟨_,U,Qa,λl4 n4=>?_⟩;have s4:=ag (o:=.lst [V.str Uv,.str x.name,.str "("]) n4;have e4:(aB H4 l4<|.lst [V.str Uv,.str x.name,.str "("]) l4=some (.lst<|dR [cp Uv,cp x.name,cp "("]):=by
     have:=nR [(Uv:Str),x.name,("(":Str)];rw[show dR [cp Uv,cp x.name,cp "("]=am [(Uv:Str),x.name,("(":Str)]from this];exact aa
    generalize aB H4 l4 (.lst [V.str Uv,.str x.name,.str "("])=H5 at*;refine⟨_,U,Qa,λl5 n5=>?_⟩;generalize I:aB H5 l5 _=H6;have s5:=(nw n5 I).1;have e5:=(nw n5 I).2;clear I;refine⟨l5,U,⟨_,P8.of e5⟩,?_⟩;refine gE (K:=K) (a:=l5) (xs:=[V.str<|S<|ar<|eC x.fs]) (λj r m=>m=H6/\r=if j=0 then []else dR ((uh x.fs).map ar)) ⟨U,U⟩ (λj r m hj⟨a1,a2⟩=>by
      subst a1 a2;refine⟨P8.of e5,?_⟩;split
      ·exact MR _
      ·rw[eo,Me];unfold uh;split<;>simp<;>lia) ?_ ?_
    ·rintro j u r H7 p ⟨rfl,rfl⟩;have tt:j=0:=by
      have:=(Mc.mp p).1;simpa using this
     subst tt;obtain rfl:V.str (S<|ar<|eC x.fs)=u:=by simpa using p
     refine⟨trivial,_,U,U,_,U,bE (λh=>?_) λh=>?_⟩
     ·refine⟨_,U,Nx.mk (by simp) ⟨U,?_⟩⟩;have Oe:¬x.fs=[]:=λe=>by
       have:=(pH x.fs).mpr e;rw[this]at h;revert h;decide +kernel
      unfold uh;rw[f_ Oe];rfl
     ·refine Nx.mk (by simp) ⟨U,?_⟩;have he:x.fs=[]:=by
       by_cases e:x.fs=[]
       ·exact e
       ·exfalso;apply h;have:V.str (S<|ar<|eC x.fs)≠V.str "":=λz=>e ((pH x.fs).mp<|V.str.inj z);simpa using this
      unfold uh;rw[g_ he];rfl
    ·rintro r H7 ⟨rfl,rfl⟩ l8 n8;rw[f_<|by simp];generalize I:aB H7 l8 _=H8;have s8:=(nw n8 I).1;have e8:H8 l8=some (.lst<|dR<|(uh x.fs).map ar):=(nw n8 I).2;clear I;have tp:((uh x.fs).map ar).length<=1:=by
      rw[Me];unfold uh;split<;>simp
     refine BC ((s5.trans s8) _ _ e4) e8 (by simp only[Mg,Mv];lia) λl9 H9 s9 n9 e9=>?_;refine⟨Qa,λYQ ZN=>?_⟩;have WB:=ag (o:=.lst [V.str ")"]) ZN;have Zu:(aB H9 YQ<|.lst [V.str ")"]) YQ=some (.lst<|dR [cp ")"]):=by
      rw[show dR [cp ")"]=am [(")":Str)]from nR [(")":Str)]];exact aa
     generalize aB H9 YQ (.lst [V.str ")"])=Yi at*;refine BC (WB _ _ e9) Zu (by simp only[Md,Mg,Mv];lia) λtg Yh Xl tk eS=>?_;have Yt:=(((((R.trans s4).trans s5).trans s8).trans s9).trans WB).trans Xl;have WX:=v.trans Yt;have eF:=Yt _ _ e2;refine N _ _ ?_;clear N D2;refine⟨_,U,.inl ⟨U,_,P8.of eF⟩,U,_,U,_,U,_,U,_,U,b,d,lf,D.width,D.places,D.marks,x.fs,x.dd,mk-1,U,hb.kt<|ak WX,⟨⟨_,_,_,WX _ _ Y.ed,Y.v1,Y.v4,Y.v5,WX _ _ Y.ep,WX _ _ Y.em⟩,RK.same ⟨fu,Wn,en⟩ WX,L.w24,G⟩,zo,zd,rf hK.dd (show mc<=3 by lia),λeT Og=>?_⟩;rw[<-hK.bd];refine⟨Qa,λev eb=>?_⟩;generalize I:aB eT ev _=eN;have eg:=(nw eb I).1;have eH:eN ev=some (.lst<|dR [ar<|dz x.bd]):=(nw eb I).2;clear I;refine BC ((Og.trans eg) _ _ eS) eH (by simp only[Md,Mg,Mv];lia) λta tc Zb tx eL=>?_;have YZ:(ar<|dz x.bd).length<=9*(dz x.bd).length:=bT λz O=>rn L W2 z (Mj _ O);have ti:(dz x.bd).length<=(eu D).length:=by
      have h1:=jU W2;have h2:(dz x.bd).length<=(cw x).length:=by unfold cw;rw[Md];lia
      unfold eu;rw[Md];lia
     have ey:∀t∈(uh x.fs).map ar,t.length<=200:=by
      intro t M;obtain⟨g,J,rfl⟩:=MQ.mp M;unfold uh at J;split at J
      ·cases J
      ·rw[MJ.mp J];have:=bT (zs:=eC x.fs) (Bs λf hf=>⟨(G.f f hf).1,P' f hf⟩);rw[j6]at this;lia
     have tb:(cp x.name).length<=8:=(L.kf x W2).1.len;refine⟨[32],ta,_,e_ V.str qR,U,P8.of eL,?_,?_⟩
     ·have W3:=jp 14000 ([cp Uv,cp x.name,cp "("]++(uh x.fs).map ar++[cp ")"]++[ar<|dz x.bd]) (λt M=>by
       simp only[MC,Mo,Mu,l_]at M;rcases M with(((rfl|rfl|rfl)|M)|rfl)|rfl
       ·decide +kernel
       ·lia
       ·decide +kernel
       ·have:=ey t M;lia
       ·decide +kernel
       ·lia)
      have N7:([cp Uv,cp x.name,cp "("]++(uh x.fs).map ar++[cp ")"]++[ar<|dz x.bd]).length<=6:=by
       simp only[Md,Mg,Mv];lia
      have h6:=S8 14000 N7;generalize ([cp Uv,cp x.name,cp "("]++(uh x.fs).map ar++[cp ")"]++[ar<|dz x.bd])=ts at*;simp only[Mg,Mv];lia
     rw[Eg x];have Zx:=((Yt.trans Og).trans eg).trans Zb;refine⟨lr,_,_,U,U,Zx _ _ e2,?_,?_⟩
     ·rw[eo];unfold jT;rw[Mg,Me,Mp];lia
     refine N1 _ _ ?_;refine⟨_,_,_,_,_,U,c7 et<|v.trans Zx,?_⟩;rw[aa]
     congr 2
     unfold jT dR;rw[MW,Z];simp
  ·intro σ H2 z;obtain⟨v3,v4,v5,v6,v7,rfl,v,e2⟩:=z;rw[lF Y.ks,MD]at e2;refine⟨U,_,U,[10],lr,jT D D.kinds,e_ V.str K1,U,P8.of e2,?_,q _ v⟩;have hh:=bT (xH L);have h5:=yI (zs:=D.kinds) λx Z=>by
    have:=bT (rn L Z);lia
   unfold jT;rw[Mz,NY,Mg,Me];simp only[Mg,Mv];have h6:(fV D).length+(D.kinds.flatMap cw).length<=1500:=by
    unfold eu at ei;rw[Md]at ei;exact ei
   lia
end
end L3
namespace XB
open PySem PySem.W PySem.Calls PyProof.Rows Builtin Builtin.ObjectAttr
abbrev bmV:List Vq:=[.type "ValueError",.type "Exception",.type "BaseException",.type "object"]
section
variable{o:Vt}{w:Vu}{A:Vv}{E:Vq->Vs->Prop}{s:Vs}{K:Frag}{x C:Vr}{ox:Obj}{od:Option Obj}{i:Str}{expr:Bool}
variable{R:Result->Vs->Prop}{v:Vq}
def Su{q:Tok}(X:K.In s.heap)(I:InstAt s.heap x ox C od)(D:mroIn K C (.type "BaseException")=some true)(L:findObj K C od i=some (.value v))(Y:R (.ok<|.ret v) s):
  codeAny (model o w) A (.call (.builtin "BaseException.__getattribute__") ⟨[.ref x,.str i q],[]⟩) R s:=by
 refine Q_ F.attr_ValueError.ga.plain F.entry_bexc_ga ?_;refine @check_slot (model o w) _ _ s "BaseException.__getattribute__" "BaseException" "__getattribute__" (.ref x) [.str i q] [] _ zk zk (I.type.andThen<|looks_mroIn X D) (F.args_bexc_ga (.ref x)<|.str i q) ?_;obtain⟨G,g,d,t,os⟩:=s;have z:=I.type (M:=model o w);have O:=looks_find (M:=model o w) X I L;refine a_ (d_<|a_<|d_<|a_<|z.at<|a_<|O.at ?_);exact d_ Y
def Sl{q:Tok}{g a:Vq}{R:Result->Vs->Prop}(X:K.In s.heap)(I:InstAt s.heap x ox C od)(L:mroIn K C (.type "BaseException")=some true)(Y:findObj K C od i=some (.bind g a))
  (G:codeAny (model o w) A.in1 (.call g ⟨[a,.ref x,.ref C],[]⟩) (λr m=>match r with|.ok (.ret v)=>R (.ok<|.ret v) m|.ok _=>False|.error e=>R (.error e) m) s) :
  codeAny (model o w) A (.call (.builtin "BaseException.__getattribute__") ⟨[.ref x,.str i q],[]⟩) R s:=by
 refine Q_ F.attr_ValueError.ga.plain F.entry_bexc_ga ?_;refine @check_slot (model o w) _ _ s "BaseException.__getattribute__" "BaseException" "__getattribute__" (.ref x) [.str i q] [] _ zk zk (I.type.andThen<|looks_mroIn X L) (F.args_bexc_ga (.ref x)<|.str i q) ?_;obtain⟨J,g',d,t,os⟩:=s;have O:=I.type (M:=model o w);have D:=looks_find (M:=model o w) X I Y;refine a_ (d_<|a_<|d_<|a_<|O.at<|a_<|D.at ?_);show wpAny _ _ (holding [a] (call g [a,.ref x,.ref C])>>=ret) _ _ _;refine a_ (p_<|E_ (u_ G λr m z=>?_));rcases r with e|(v|_|_|_)<;>first|exact z|exact d_ z
def Sf{Q:Vq->Vs->Prop}(X:K.In s.heap)(I:InstAt s.heap x ox C od)(G:findIn K (.ref C) "__getattribute__"=some (some<|.builtin "BaseException.__getattribute__"))(Y:findIn K (.ref C) "__getattr__"=some none)
  (h:codeAny (model o w) A (.call (.builtin "BaseException.__getattribute__") ⟨[.ref x,.str i s.toks],[]⟩) (λr m=>match r with|.ok (.ret v)=>wpAny (model o w) A (handedOut v) Q E m|_=>False) {s with toks:=s.toks+1}) :
  wpAny (model o w) A (getAttr (.ref x) i expr) Q E s:=by
 obtain⟨J,g,d,t,os⟩:=s;have O:=I.type (M:=model o w);have D:=looks_findIn (M:=model o w) X G;have L:=looks_findIn (M:=model o w) X Y;have q:(Value.builtin "BaseException.__getattribute__" == Value.builtin "object.__getattribute__")=false:=by decide +kernel
 unfold getAttr getAttrBy;refine a_ (wpAny_mkText<|p_<|a_<|O.at<|a_<|D.at ?_);dsimp only;rw[show(onTheHeap (Value.ref C)&&Value.builtin "BaseException.__getattribute__" == Value.builtin "object.__getattribute__")=false by rw[q];rfl,f_ zd];unfold getAttrByItsOwn hookBefore;rw[g_<|show onTheHeap (Value.ref C)=true from rfl];refine a_ (L.at<|a_<|TH<|p_ ?_);unfold callGetattribute;rw[show(expr&&onTheHeap (Value.builtin "BaseException.__getattribute__"))=false by cases expr<;>rfl,f_ zd];unfold boundAndCalled;rw[F.attr_ValueError.ga.bind];refine a_ (d_ ?_);show wpAny _ _ (call (.builtin "BaseException.__getattribute__") [.ref x,.str i t]) _ _ _;refine E_ (u_ h λr m z=>?_);rcases r with e|(v|_|_|_)<;>first|exact z|exact z.elim
def xget_value{v:Vq}{Q:Vq->Vs->Prop}(X:K.In s.heap)(I:InstAt s.heap x ox C od)(z:findIn K (.ref C) "__getattribute__"=some (some<|.builtin "BaseException.__getattribute__"))(q:findIn K (.ref C) "__getattr__"=some none)
  (O:mroIn K C (.type "BaseException")=some true) (D:findObj K C od i=some (.value v)) (L:handedIn v=true) (h:Q v {s with toks:=s.toks+1}):wpAny (model o w) A (getAttr (.ref x) i expr) Q E s:=
 Sf X I z q (Su (s:={s with toks:=s.toks+1}) X I O D<|handed_on L h)
def Sj{Q:Option Vq->Vs->Prop}(X:K.In s.heap)(I:InstAt s.heap x ox C od)(J:findIn K (.ref C) "__getattribute__"=some (some<|.builtin "BaseException.__getattribute__"))(G:findIn K (.ref C) "__getattr__"=some none)
  (h:codeAny (model o w) A (.call (.builtin "BaseException.__getattribute__") ⟨[.ref x,.str i s.toks],[]⟩) (λr m=>match r with|.ok (.ret v)=>wpAny (model o w) A (handedOut v) (λv O=>Q (some v) O) (λ_ _=>False) m|_=>False) {s with toks:=s.toks+1}) :
  wpAny (model o w) A (getAttr? (.ref x) i) Q E s:=by
 obtain⟨hh,g,d,t,os⟩:=s;have D:=I.type (M:=model o w);have L:=looks_findIn (M:=model o w) X J;have Y:=looks_findIn (M:=model o w) X G;have q:(Value.builtin "BaseException.__getattribute__" == Value.builtin "object.__getattribute__")=false:=by decide +kernel
 unfold getAttr? getAttrBy? getAttrBy;refine a_ (wpAny_mkText<|a_<|TH<|p_<|a_<|D.at<|a_<|L.at ?_);dsimp only;rw[show(onTheHeap (Value.ref C)&&Value.builtin "BaseException.__getattribute__" == Value.builtin "object.__getattribute__")=false by rw[q];rfl,f_ zd];unfold getAttrByItsOwn hookBefore;rw[g_<|show onTheHeap (Value.ref C)=true from rfl];refine a_ (Y.at<|a_<|TH<|p_ ?_);unfold callGetattribute;rw[show(false&&onTheHeap (Value.builtin "BaseException.__getattribute__"))=false from rfl,f_ zd];unfold boundAndCalled;rw[F.attr_ValueError.ga.bind];refine a_ (d_ ?_);show wpAny _ _ (call (.builtin "BaseException.__getattribute__") [.ref x,.str i t]) _ _ _;refine E_ (u_ h λr m z=>?_);rcases r with e|(v|_|_|_)<;>first|exact j_ z (λv O Z=>d_ Z) (λ_ _ z=>z.elim)|exact z.elim
def kitx_exc(t:(clsIn K C).isSome=true)(ZY:findIn K (.ref C) "__getattribute__"=some (some<|.builtin "BaseException.__getattribute__"))(VP:findIn K (.ref C) "__getattr__"=some none)
  (d:mroIn K C (.type "BaseException")=some true) (L:mroIn K C (.type "object")=some true)
  (r:findIn K (.ref C) "__class__"=some (some<|.builtin "object.__class__")) (f:specialIn K (.builtin "object.__class__") "__get__"=some (some<|.builtin "getset_descriptor.__get__")) (G:takesIn K (.builtin "object.__class__")=some true) :
  KitX K (.ref x) (.ref C) (λh=>∃ox od,InstAt h x ox C od) where
 ty:=λ_ _ _⟨_,_,I⟩=>I.type
 it:=λ_ _ X _=>by
  obtain⟨D,O⟩:=Option.isSome_iff_exists.mp t;unfold clsIn at O;split at O
  ·rename_i c' d' Y Z L;intro A' Q' E' p k q;unfold isType loadHead;exact a_ (S0 (k _ _<|X _ _ L)<|d_ q)
  ·cases O
 ne:=λh tp dd f' n sl X J=>by
  obtain⟨D,O⟩:=Option.isSome_iff_exists.mp t;refine Nc.mpr λq=>?_;have e:C=tp:=Value.ref.inj (beq_iff_eq.mp q);subst e;unfold clsIn at O;split at O
  ·rename_i c' d' Y Z L;have z:=(X _ _ L).symm.trans J;cases z
  ·cases O
 ca:=λ{o w A E Q s}X⟨ox,od,I⟩k=>by
  have m:findObj K C od "__class__"=some (.bind (.builtin "getset_descriptor.__get__")<|.builtin "object.__class__"):=by
   obtain⟨D,O⟩:=Option.isSome_iff_exists.mp t;unfold findObj;rw[O,s_,r,s_];dsimp only;rw[f,s_];dsimp only;rw[G,s_]
  refine Sj X I ZY VP (Sl (s:={s with toks:=s.toks+1}) X I d m ?_);refine class_get (s:={s with toks:=s.toks+1}) X I L ?_;exact handed_on U k
end
section
variable{i:Vt}{w:Vu}{A:Vv}{E:Vq->Vs->Prop}{h:Heap}{g:Array GenState}{d:Drawn}{t:Nat}{os:OsState}
variable{nm q:Str}{C N x:Vr}{bs bm:List Vq}{sn:Vx}{sub:List Vq}{ab:Bool}{col:Option Bool}{dd:Option Vr}{k0 k1 k2 k3 k5:Option Vq}{Wu:String}
 {mA:Str->Option Vq} {name:Str} {v:Vq} {o:Obj}
def Tail(bm:List Vq):Prop:=bm=bmV\/∃R,bm=.ref R::bmV
def Tail.pass(T:Tail bm)(self:Vq):refuseLoop self "__setattr__" bm=pure ():=by
 rcases T with rfl|⟨R,rfl⟩
 ·exact F.store_ValueError.passes self
 ·rw[refuseLoop_ref];exact F.store_ValueError.passes self
def Tail.has(T:Tail bm)(C:Vr)(n:String)(b:Bool)(e:bmV.contains (.type n)=b):(Value.ref C::bm).contains (.type n)=b:=by
 rcases T with rfl|⟨R,rfl⟩
 ·rw[x_,e];rfl
 ·rw[x_,x_,e];rfl
def xstore_new{tk:Tok}{Q:Fin->Vs->Prop}(T:Tail bm)(hC:h.get? C=some (excClassObj nm q C N bs bm true sn sub ab col dd k0 k1 k2 k3 k5 Wu))(LN:Looks (model i w) h (typeLookup (.ref C) r) none)
  (I:h.get? x=some o) (j:o.cls=.ref C) (J:∀c,o.data≠.cls c) (G:o.dict=none)
  (M:∀m et,m.get? x=some {cls:=o.cls,dict:=some h.objs.size,data:=o.data,slots:=o.slots}->m.Ns1 h.objs.size (λy=>if y=r then some v else none)->(∀b ob,b≠x->h.get? b=some ob->m.get? b=some ob)->Q (.done<|.ret .none) ⟨m,g,d,et,os⟩) :
  wpAny (model i w) A (Builtin.«object.__setattr__» ⟨[.ref x,.str r tk,v],[]⟩) Q E ⟨h,g,d,t,os⟩:=by
 have Yu:=T.pass (.ref x);unfold Builtin.«object.__setattr__»;repeat (first|rw[refuse_eq]|(rw[refuseLoop_ref,Yu])|(with_reducible refine v_ I ?_;rw[j])|with_reducible refine wpAny_mroOf_exc hC ?_|with_reducible refine LN.at ?_|wp_step)
 rw[G,f_<|by simp[typeHasDict]];split
 ·rename_i D;cases D
 split
 ·rename_i c D;exact absurd D (J c)
 ·have z:(h.push {cls:=.type "dict",data:=.dict #[]}).get? x=some o:=Mh _ I;have O:x≠h.objs.size:=ME (Mm I);refine a_ (wpAny_alloc' ?_);refine a_ (wpAny_update' z ?_);refine d_ ?_;have ZW:((h.push {cls:=.type "dict",data:=.dict #[]}).update x λo=>{cls:=o.cls,dict:=some h.objs.size,data:=o.data,slots:=o.slots}).get? h.objs.size
    = some {cls:=.type "dict",data:=.dict #[]}:=
   (TB _ _ _ _ O.symm).trans (Heap.get?_push_at U U)
  have U':((h.push {cls:=.type "dict",data:=.dict #[]}).update x λo=>{cls:=o.cls,dict:=some h.objs.size,data:=o.data,slots:=o.slots}).Ns h.objs.size (λ_=>none):=
   ⟨_,#[],_,ZW,U,λe R=>absurd R (by simp),λ_=>rfl⟩
  show wpAny _ _ (storeInDict h.objs.size (.str r tk) r v) _ _ _;unfold storeInDict newKeyGuard;refine a_ (d_<|a_<|wpAny_nsSet1 (Heap.Ns1.of_empty U') λm WO p=>?_);obtain⟨oD,ei,ea,Z,Y,Xc⟩:=WO.count (Within.cons r v Within.nil);refine a_ (wpAny_lookBehind Z (by rw[Y];exact pastItsLine_dict (MP Xc<|by rw[Mg,Mv,SC];lia)) ?_)
  wp_walk
  refine M m _ ?_ WO (λb ob L f=>?_)
  ·refine(p.2 x O).trans (t_ _ z ?_);have XH:=(Heap.get?_some_iff.mp I).2;obtain⟨oc,B,ee,Wl⟩:=o;cases ee<;>first|rfl|exact XH
  ·exact(p.2 b<|ME<|Mm f).trans ((TB _ _ _ _ L).trans<|Mh _ f)
def xstore_old{J:Tok}{Q:Fin->Vs->Prop}{z:Vr}{G:Vx}(T:Tail bm)(hC:h.get? C=some (excClassObj nm q C N bs bm true sn sub ab col dd k0 k1 k2 k3 k5 Wu))(Z:Looks (model i w) h (typeLookup (.ref C) e) none)
  (j:h.get? x=some o) (m:o.cls=.ref C) (I:o.dict=some z) (Zj:h.Ns1 z mA) (hw:Within mA G) (hsz:G.length<sizeLine)
  (f:∀r L,r.Ns1 z (λy=>if y=e then some v else mA y)->Heap.SameBut z h r->Q (.done<|.ret .none) ⟨r,g,d,L,os⟩) :
  wpAny (model i w) A (Builtin.«object.__setattr__» ⟨[.ref x,.str e J,v],[]⟩) Q E ⟨h,g,d,t,os⟩:=by
 have Yu:=T.pass (.ref x);unfold Builtin.«object.__setattr__»;repeat (first|rw[refuse_eq]|(rw[refuseLoop_ref,Yu])|(with_reducible refine v_ j ?_;rw[m])|with_reducible refine wpAny_mroOf_exc hC ?_|with_reducible refine Z.at ?_|wp_step)
 rw[I];refine d_ ?_;show wpAny _ _ (storeInDict z (.str e J) e v) _ _ _;unfold storeInDict newKeyGuard;refine a_ (d_<|a_ (wpAny_nsSet1 Zj λr Y p=>?_));obtain⟨oD,et,ee,D,O,Xc⟩:=Y.count (Within.cons e v hw);refine a_ (wpAny_lookBehind D (by rw[O];exact pastItsLine_dict (MP Xc<|by rw[Mg];lia)) ?_)
 wp_walk
 exact f r _ Y p
def xset_open{Q:Unit->Vs->Prop}{K:Frag}{od:Option Obj}(X:K.In h)(I:InstAt h x o C od)(Y:findIn K (.ref C) "__setattr__"=some (some<|.builtin "object.__setattr__"))(D:mroIn K C (.type "object")=some true)
  (L:∀O,wpAny (model i w) O (Builtin.«object.__setattr__» ⟨[.ref x,.str e t,v],[]⟩) (λf r=>f=.done (.ret .none)/\Q () r) (λ_ _=>False) ⟨h,g,d,t+1,os⟩) :
  wpAny (model i w) A (setAttr (.ref x) e v) Q E ⟨h,g,d,t,os⟩:=by
 refine set_plain X I Y ?_;refine Q_ F.store_ValueError.slot.plain F.store_ValueError.entry ?_;refine @check_slot (model i w) _ _ ⟨h,g,d,t+1,os⟩ "object.__setattr__" "object" "__setattr__" (.ref x) [.str e t,v] [] _ F.store_ValueError.kind F.store_ValueError.split (I.type.andThen<|looks_mroIn X D) (F.store_ValueError.args (.ref x) (.str e t) v) ?_;refine j_ (L _) (λf r z=>?_) λ_ _ z=>z.elim;obtain⟨rfl,z⟩:=z;exact z
def R4{M:Model}{L:List Vq}{Q:Unit->Vs->Prop}(T:Tail bm)(O:h.get? C=some (excClassObj nm q C N bs bm true sn sub ab col dd k0 k1 k2 k3 k5 "ValueError.__new__"))
  (D:Q () ⟨h,g,d,t,os⟩):wpAny M A (checkBuiltinCall "ValueError.__new__" ⟨.ref C::L,[]⟩) Q E ⟨h,g,d,t,os⟩:=by
 have F:=R_;have z:=T.has C "ValueError" true zk;have I:=F.noStar;simp only[checkBuiltinCall,F.newKind,F.newSplit,F.newRow];repeat (first|refine v_ O ?_|(refine w_ O ?_;rw[z])|refine wpAny_staticBase_exc O ?_|refine wpAny_madeBy_exc O ?_|simp only[bne_self_eq_false,y_,Pi]|wp_step)
 exact D
def xnew{R:Result->Vs->Prop}{Y:List Vq}(T:Tail bm)(z:h.get? C=some (excClassObj nm q C N bs bm true sn sub ab col dd k0 k1 k2 k3 k5 "ValueError.__new__"))
  (G:R (.ok<|.ret<|.ref<|h.objs.size+1) ⟨(h.push {cls:=.type "tuple",data:=.seq Y.toArray}).push
   {cls:=.ref C,data:=.fields #[.ref h.objs.size,.none,.none,.none,.bool false,.none]},g,d,t,os⟩) (J:Y.length<=sizeLine) :
  codeAny (model i w) A (.builtin "ValueError.__new__" ⟨.ref C::Y,[]⟩) R ⟨h,g,d,t,os⟩:=by
 have F:=R_;have L:=F.ends;have I:=T.has C "ValueError" true zk;have O:=T.has C "AttributeError" false zk;have D:=T.has C "NameError" false zk;refine codeAny_builtinAt F.entry ?_;unfold Builtin.«BaseException.__new__»;refine PySem.wpAt_bind ?_;show PySem.wpAt _ _ _ (stack>>=_) _ _ _;refine PySem.wpAt_bind (PySem.wpAt_stack λp below=>PySem.wpAt_of_wpAny ?_)
 wp_walk
 refine PySem.wpAt_of_wpAny ?_;rw[F.owner];repeat (first|with_reducible refine wpAny_madeHere_exc F.canon z ?_|with_reducible refine v_ z ?_|(with_reducible refine w_ z ?_;first|rw[I]|rw[O]|rw[D])|wp_step)
 show R _ _;rw[ND];exact G
abbrev tupO(z:List Vq):Obj:={cls:=.type "tuple",data:=.seq z.toArray}
abbrev excO(C:Vr)(a:Vr):Obj:={cls:=.ref C,data:=.fields #[.ref a,.none,.none,.none,.bool false,.none]}
def RW{I:List Vq}{L:Vr}{J:Obj}{Q:Fin->Vs->Prop}(T:Tail bm)(D:h.get? C=some (excClassObj nm q C N bs bm true sn sub ab col dd k0 k1 k2 k3 k5 "ValueError.__new__"))
  (Z:Looks (model i w) h (typeLookup (.ref C) "__init__") (some<|.ref L)) (G:h.get? L=some J) (XV:J.cls=.type "function")
  (f:wpAny (model i w) A (call (.ref L) (.ref (h.objs.size+1)::I)) (λr e=>r=.none/\Q (.done<|.ret<|.ref<|h.objs.size+1) e) E ⟨(h.push<|tupO I).push<|excO C h.objs.size,g,d,t,os⟩) (WY:I.length<=sizeLine) :
  wpAny (model i w) A (Builtin.«type.__call__» ⟨.ref C::I,[]⟩) Q E ⟨h,g,d,t,os⟩:=by
 have F:=R_;repeat (first|with_reducible refine v_ D ?_|with_reducible refine wpAny_madeBy_exc D ?_|wp_step)
 refine codeAny_call_builtin_code (Code.quiet_builtin _ F.quiet) (R4 T D ?_);refine xnew T D ?_ WY;show wpAny _ _ _ _ _ _;have kp:∀b o,h.get? b=some o->((h.push<|tupO I).push<|excO C h.objs.size).get? b=some o:=λb o m=>Mh _ (Mh _ m);have O:=kp _ _ D;have z:=kp _ _ G;have Y9:((h.push<|tupO I).push<|excO C h.objs.size).get? (h.objs.size+1)=some (excO C h.objs.size):=by heap_get
 have Y:(Value.ref C::bm).contains (.ref C)=true:=by simp
 unfold isInstance;repeat (first|with_reducible refine v_ Y9 ?_|(with_reducible refine w_ O ?_;rw[Y])|wp_step)
 show wpAny _ _ (typeLookup (.ref C) _) _ _ _;refine Z _ _ _ _ kp ?_;refine p_ (a_ ?_);unfold bindSpecial;refine a_ (wpAny_typeOf (T:="function") ⟨_,z,XV⟩ ?_);rw[g_ zd];refine d_ (a_<|j_ f (λr e hr=>?_) λ_ _ x=>x);obtain⟨rfl,hQ⟩:=hr
 wp_walk
 exact hQ
def xmake{z:List Vq}{I:Vr}{L:Obj}{Q:Vq->Vs->Prop}(T:Tail bm)(O:h.get? C=some (excClassObj nm q C N bs bm true sn sub ab col dd k0 k1 k2 k3 k5 "ValueError.__new__"))
  (Y:Looks (model i w) h (typeLookup (.ref C) "__init__") (some<|.ref I)) (D:h.get? I=some L) (J:L.cls=.type "function")
  (Z:wpAny (model i w) (A.under<|.builtin "type.__call__" ⟨.ref C::z,[]⟩) (call (.ref I) (.ref (h.objs.size+1)::z)) (λr e=>r=.none/\Q (.ref<|h.objs.size+1) e) E ⟨(h.push<|tupO z).push<|excO C h.objs.size,g,d,t,os⟩)
  (G:z.length<=sizeLine) :
  wpAny (model i w) A (call (.ref C) z) Q E ⟨h,g,d,t,os⟩:=by
 have f1:=tc_lookup;have f2:=tc_bind (.ref C);have hT:(⟨h,g,d,t,os⟩:Vs).TypeIs (.ref C) "type":=⟨_,O,U⟩;refine E_ (codeAny_of_tree ?_);show wpAny _ _ (callAny (.ref C) _) _ _ _;repeat (any_goals (first|assumption|with_reducible refine v_ O ?_|wp_step))
 refine⟨U,?_⟩;refine codeAny_call_builtin_at (Code.quiet_builtin _ zk) entry_typeCall (wpAny_check_type_call_sub O<|RW T O Y D J ?_ G);exact Z
end
section
variable{i:Vt}{w:Vu}{A:Vv}{E:Vq->Vs->Prop}{h:Heap}{g:Array GenState}{d:Drawn}{t:Nat}{os:OsState}
variable{nm q:Str}{C N x:Vr}{bs bm:List Vq}{sn:Vx}{sub:List Vq}{ab:Bool}{col:Option Bool}{dd:Option Vr}{k0 k1 k2 k3 k5:Option Vq}{Wu:String}
 {mA:Str->Option Vq} {name:Str} {v:Vq} {o:Obj}
def xinit{R:Result->Vs->Prop}{I:List Vq}{vs:Array Vq}{a0:Vr}(T:Tail bm)(hC:h.get? C=some (excClassObj nm q C N bs bm true sn sub ab col dd k0 k1 k2 k3 k5 Wu))(Y:h.get? x=some o)(p:o.cls=.ref C)
  (r:o.data=.fields vs) (Z:vs[0]?=some (.ref a0)) (WY:I.length<=sizeLine)
  (v:∀m D,(∀b G,b≠x->h.get? b=some G->m.get? b=some G)->m.get? x=some {cls:=o.cls,dict:=o.dict,data:=.fields D,slots:=o.slots}->(∃a,D[0]?=some (.ref a)/\D[1]?=vs[1]?)->R (.ok<|.ret .none) ⟨m,g,d,t,os⟩) :
  codeAny (model i w) A (.call (.builtin "ValueError.__init__") ⟨.ref x::I,[]⟩) R ⟨h,g,d,t,os⟩:=by
 have F:=R_;have L:=T.has C "ValueError" true zk;have O:=F.noStar;refine Q_ F.init.plain F.initEntry ?_;simp only[checkBuiltinCall,F.initKind,F.initSplit,F.initRow];repeat (first|(with_reducible refine v_ Y ?_;rw[p])|(with_reducible refine w_ hC ?_;rw[L])|wp_step)
 refine wpAny_onRaise ?_;rw[show ∀(a b:String)(n:Nat),Bind.check ⟨.positional,"*","ValueError",.self,[⟨"args",.varPos,false⟩]⟩ a b n (List.map (λx=>x.fst) ({pos:=Value.ref x::I}:Args).kw)=pure ()from
  λa b n=>check_star_args _ _ _ _ _ _]
 refine d_ ?_
 wp_walk
 rw[r];repeat (any_goals (first|assumption|rw[Z]|wp_step))
 rw[r];have hsz:0<vs.size:=by
  have:=(Array.getElem?_eq_some_iff.mp Z).1;exact this
 dsimp only;rw[g_ hsz];have z:(h.push<|tupO I).get? x=some o:=Mh _ Y;refine wpAny_update' z ?_;repeat (any_goals (first|assumption|wp_step))
 have XH:=(Heap.get?_some_iff.mp Y).2;refine v _ (vs.setIfInBounds 0<|.ref h.objs.size) (λb G f e=>?_) ?_ ⟨h.objs.size,?_,?_⟩
 ·rw[TB _ _ _ _ f];exact Mh _ e
 ·rw[t_ _ z<|by obtain⟨oc,j,J,Wl⟩:=o;cases r;rfl];obtain⟨oc,j,J,Wl⟩:=o;cases r;rfl
 ·simp[hsz]
 ·exact H_ zd
variable{K:Frag}
def Sy:findCls K (.type "ValueError") (.type "type") "__init__"=some (.val<|.builtin "ValueError.__init__"):=by rfl
def RZ:Looks M h (opaqueClassAbove<|.type "ValueError") none:=Looks.of_pure (by kernel_rfl)
def RJ:Looks M h (typeOf<|.type "ValueError") (.type "type"):=Looks.of_pure (by kernel_rfl)
variable{Q:Vq×List Vq->Vs->Prop}{s:Vs}
def val_method{pl:Sem Bool}(X:K.In s.heap)(z:Q (.builtin "ValueError.__init__",[]) {s with toks:=s.toks+1}):
  wpAny (model i w) A (getMethod (.type "ValueError") "__init__" pl) Q E s:=by
 unfold getMethod specialOf;refine a_ (a_<|RJ.here ?_);have L:Looks (model i w) s.heap (typeLookup (.type "type") "__getattribute__") (some<|.builtin "type.__getattribute__"):=Looks.of_pure KF.slot_tga.lookup;refine L.here ?_;dsimp only;rw[g_ canon_tga];refine a_ (cls_open (K:=K) (mc:=.type "type") (hook:=none) X RZ RJ (by rfl) (looks_hook X<|by rfl) (by rfl) Sy ?_);exact d_ (handed_on U<|d_ z)
def own_method{pl:Sem Bool}{f C:Vr}{e:Str}{Q:Vq×List Vq->Vs->Prop}(X:K.In s.heap)(hr:readsIn K C (.type "type")=true)(I:findCls K (.ref C) (.type "type") e=some (.val<|.ref f))
  (D:Q (.ref f,[]) {s with toks:=s.toks+1}):wpAny (model i w) A (getMethod (.ref C) e pl) Q E s:=by
 have L:specialIn K (.ref C) "__getattribute__"=some (some<|.builtin "type.__getattribute__"):=by
  have z:=hr;simp only[readsIn,Nh,S5]at z;obtain⟨⟨⟨⟨a,b⟩,O⟩,d⟩,f⟩:=z;unfold specialIn;rw[b,s_];exact O
 exact method_cls X L (cls_value X hr I U D)
end
end XB
namespace L2
open PySem PySem.Spec PyProof.Rows
def XO(e C:Vr)(d:Option Vr)(r:Bool)(h:Heap):Prop:=∃(vs:Array Vq)(q:Vr),h.get? e=some {cls:=.ref C,dict:=d,data:=.fields vs}/\vs[0]?=some (.ref q)/\(r=false->vs[1]?=some .none)
def DX(q:Vr)(e:List (Str×V))(h:Heap):Prop:=∃mA,h.Ns1 q mA/\(∀f,QB (e.lookup f)<|mA f)/\PySem.Within mA (e.map (·.1))
def Re(H:Hp)(e C:Vr)(d:Option Vr)(r:Bool)(t:List (Str×V)):Prop:=H e=some (.ext (XO e C d r))/\t.length<=1000/\match d with|none=>t=[]|some q=>q≠e/\H q=some (.ext (DX q t))
def Re.same(x:Re H e C d r i)(s:∀b o,H b=some o->t b=some o):Re t e C d r i:=by
 obtain⟨a,b,c⟩:=x;refine⟨s _ _ a,b,?_⟩;cases d with
 |none=>exact c
 |some q=>exact⟨c.1,s _ _ c.2⟩
structure XC(K:ZF)(C:Vr)(nm:Str)(bm:List Vq):Prop where
 tl:XB.Tail bm
 obj:∃q N bs sn sub ab col dd k0 k1 k2 k3 k5,K.lookup C=some (excClassObj nm q C N bs bm true sn sub ab col dd k0 k1 k2 k3 k5 "ValueError.__new__")
 ga:PySem.W.findIn K (.ref C) "__getattribute__"=some (some<|.builtin "BaseException.__getattribute__")
 gt:PySem.W.findIn K (.ref C) "__getattr__"=some none
 sa:PySem.W.findIn K (.ref C) "__setattr__"=some (some<|.builtin "object.__setattr__")
 cl:PySem.W.findIn K (.ref C) "__class__"=some (some<|.builtin "object.__class__")
section
variable{K:ZF}{C:Vr}{nm:Str}{bm:List Vq}
def XC.clsIn(c:XC K C nm bm):∃z,PySem.W.clsIn K C=some z/\z.mro=.ref C::bm/\z.hasDict=true:=by
 obtain⟨q,N,bs,J,sub,O,col,I,D,L,k2,Y,G,l⟩:=c.obj;refine⟨_,by unfold PySem.W.clsIn;rw[l],U,U⟩
def XC.mro(c:XC K C nm bm)(n:String)(b:Bool)(e:XB.bmV.contains (.type n)=b):PySem.W.mroIn K C (.type n)=some b:=by
 obtain⟨q,h,m,_⟩:=c.clsIn;unfold PySem.W.mroIn;rw[h,s_,m];show(if false=true then _ else _)=_;rw[f_ zd,c.tl.has C n b e]
def XC.ne{z:Vr}{O:Str}{Y:List Vq}(c:XC K C nm bm)(Z:XC K z O Y)(h:nm≠O):C≠z:=by
 rintro rfl;obtain⟨q,N,bs,sn,sub,ab,col,dd,k0,k1,k2,k3,k5,l⟩:=c.obj;obtain⟨q',e,J,t,L,G,I,WT,ee,et,ea,ei,en,D⟩:=Z.obj;rw[l]at D;injection D with l1;injection l1 with _ _ l2 _;injection l2 with l3;injection l3 with l4;exact h l4
def XC.kit(c:XC K C nm bm){x:Vr}:PySem.W.KitX K (.ref x) (.ref C) (λh=>∃ox e,PySem.W.InstAt h x ox C e):=by
 obtain⟨q,h,_⟩:=c.clsIn;exact XB.kitx_exc (by rw[h];rfl) c.ga c.gt (c.mro "BaseException" true zk) (c.mro "object" true zk) c.cl (by rfl) (by rfl)
def XC.one{z:Vr}{I:Str}{D:List Vq}(c:XC K C nm bm)(O:XC K z I D):PySem.W.kitOne K (.ref C) (.ref z)=some ((Value.ref C::bm).contains<|.ref z):=by
 obtain⟨Z,h,m,_⟩:=c.clsIn;obtain⟨L,t,_⟩:=O.clsIn;obtain⟨q,N,bs,sn,sub,J,col,dd,k0,k1,k2,k3,k5,l⟩:=O.obj;unfold PySem.W.kitOne;by_cases e:(Value.ref C==Value.ref z)=true
 ·rw[g_ e,x_];have Y:(Value.ref z==Value.ref C)=true:=by rw[S5]at e⊢;exact e.symm
  rw[Y];rfl
 ·rw[f_ e];unfold PySem.W.kitCls;dsimp only;have G:PySem.W.typeIn K (.ref z)=some (.type "type"):=by
   show Option.map (λx=>x.cls) (List.lookup z K)=_;rw[l];rfl
  rw[g_<|by rw[t,G];rfl];unfold PySem.W.subIn PySem.W.mroIn;dsimp only;rw[h,s_,m];show(if false=true then _ else _)=_;rw[f_ zd]
end
section
variable{X:Cx}{i:List (Vr×Obj)}{R:St}{H:Hp}{s:Vs}{e C j:Vr}{d:Option Vr}{rr:Bool}{nm:Str}{bm:List Vq}{fs:List (Str×V)}{f:Str}{v:V}{A:Vv}{E:Vq->Vs->Prop}
def Re.obj(x:Re H e C d rr fs)(I:P6 X i R H s):∃(vs:Array Vq)(q:Vr),s.heap.get? e=some {cls:=.ref C,dict:=d,data:=.fields vs}/\vs[0]?=some (.ref q)/\(rr=false->vs[1]?=some .none):=by
 obtain⟨p,_,_⟩:=(show Qe X.prog X.w H s.heap e (.ext (XO e C d rr))from I.hok e _ x.1);exact p
def Re.dict(x:Re H e C (some j) rr fs)(I:P6 X i R H s):∃mA,s.heap.Ns1 j mA/\(∀f,QB (fs.lookup f)<|mA f)/\PySem.Within mA (fs.map (·.1)):=by
 obtain⟨_,_,_,h⟩:=x;obtain⟨p,_,_⟩:=(show Qe X.prog X.w H s.heap j (.ext (DX j fs))from I.hok j _ h);exact p
def Re.inst(x:Re H e C d rr fs)(I:P6 X i R H s):∃ox t,PySem.W.InstAt s.heap e ox C t:=by
 obtain⟨vs,z,h,_⟩:=x.obj I;cases d with
 |none=>exact⟨_,none,h,U,U,True.intro⟩
 |some j=>
  obtain⟨mA,n,_,_⟩:=x.dict I;obtain⟨t,q,_⟩:=iB n;exact⟨_,some t,h,U,U,q⟩
def xL:eD X (.builtin "isinstance") (λt H Q=>∃e C d r fs nm bm O D L,t=[.ref e,.ref O]/\Re H e C d r fs/\XC X.K C nm bm/\XC X.K O D L/\Q (.bl<|(Value.ref C::bm).contains<|.ref O) H):=by
 intro i s R H t m Q I r h;obtain⟨e,C,d,Z,fs,nm,bm,O,D,L,rfl,x,c,Y,q⟩:=h;obtain⟨u,o,rfl,G,J⟩:=zr r;cases G;cases J;exact Nf c.kit I.kIn (x.inst I) (c.one Y) (λz=>nomatch z) λtk=>⟨.bl _,H,I.tok _,U,q⟩
def yU(I:P6 X i R H s)(x:Re H e C (some j) rr fs)(c:XC X.K C nm bm)(n:Qm X.K C f)(l:fs.lookup f=some v)
  (h:∀u t,P6 X i R H t->Qd v u->Q u t):wpAny (model X.prog X.w) A (getAttr (.ref e) f b) Q E s:=by
 obtain⟨mA,J,r,_⟩:=x.dict I;obtain⟨vs,Z,q,_⟩:=x.obj I;obtain⟨u,G,O⟩:=QB.some_of (v:=v) (o:=mA f) (by rw[<-l];exact r f);obtain⟨od,p,N⟩:=iB J;obtain⟨z,D,m,Y⟩:=c.clsIn;have L:PySem.W.findObj X.K C (some od) f=some (.value u):=by
  unfold PySem.W.findObj;rw[D,s_,show PySem.W.findIn X.K (.ref C) f=some none from n,s_];show((PySem.W.ownOf z (some od) f).bind _)=_;have q:PySem.W.ownOf z (some od) f=some (some u):=by
   unfold PySem.W.ownOf;rw[Y,g_ rfl];show PySem.W.lookIn f od=_;rw[N f,G]
  rw[q];rfl
 exact XB.xget_value I.kIn (ox:={cls:=.ref C,dict:=some j,data:=.fields vs}) (od:=some od) ⟨q,U,U,p⟩ c.ga c.gt (c.mro "BaseException" true zk) L (oW O) (h u _ (I.tok _) O)
def P6.two(I:P6 X i R H s)(G:H e=some (.ext φ))(Z:s.heap.objs.size<=D)(k:∀b u,b≠e->s.heap.get? b=some u->t.get? b=some u)(YG:∃u,t.get? e=some u)
  (M:Qe X.prog X.w (aB (aB H e o1) D o2) t e o1) (B:Qe X.prog X.w (aB (aB H e o1) D o2) t D o2):P6 X i R (aB (aB H e o1) D o2) {s with heap:=t,toks:=t'}:=by
 have m:=I.hok.fresh Z;have ee:e≠D:=au G m;have old:∀b o,H b=some o->b≠e->aB (aB H e o1) D o2 b=some o:=λb o O ne=>by rw[al<|au O m,al ne];exact O
 have Y:∀b o,H b=some o->(∀ψ,o≠.ext ψ)->b≠e:=λb o O ne z=>by
  rw[z,G]at O;exact ne _ (MN O).symm
 refine I.un ⟨?_,?_,?_,?_,?_,?_,?_⟩ ?_
 ·intro b o q O _ _;exact k b o (λz=>by rw[z,G]at O;cases O) q
 ·intro b o q O _ _;exact⟨o.slots,k b o (λz=>by rw[z,G]at O;cases O) q⟩
 ·intro b o q O _;have p:b≠e:=λz=>by rw[z,G]at O;cases O
  have N:b≠D:=λz=>by
   rw[z]at q;exact absurd (Mm q) (Nat.not_lt_of_le Z)
  rw[al N,al p];exact O
 ·intro b o q _;by_cases z:b=e
  ·rw[z];exact YG
  ·exact⟨o,k b o z q⟩
 ·intro b xs O;exact old b _ O (Y b _ O λψ z=>nomatch z)
 ·intro b o u O;exact old b _ O (Y b _ O λψ z=>nomatch z)
 ·intro b ps O;refine⟨#[],?_⟩;rw[Array.append_empty];exact old b _ O (Y b _ O λψ z=>nomatch z)
 ·intro a o L;by_cases r:a=D
  ·subst r;rw[aa]at L;cases L;exact B
  ·rw[al r]at L;by_cases J:a=e
   ·subst J;rw[aa]at L;cases L;exact M
   ·rw[al J]at L;refine(I.hok a o L).stay (λb u O q=>k b u ?_ q) (λb O=>old b _ O<|Y b _ O λψ z=>nomatch z) (λb xs O=>old b _ O<|Y b _ O λψ z=>nomatch z);rcases O with rfl|O
    ·exact J
    ·exact Y b _ O (λψ z=>nomatch z)
structure Jt(H H':Hp)(e C:Vr)(d:Option Vr)(r:Bool)(d':Vr)(fs:List (Str×V)):Prop where
 at_:Re H' e C (some d') r fs
 keep:∀b o,H b=some o->b≠e->some b≠d->H' b=some o
 new:d=none->H d'=none
 old:∀j,d=some j->d'=j
def jw(p:φ h)(o:∃o,h.get? a=some o)(st:∀t r:Heap,φ t->(∀o,t.get? a=some o->r.get? a=some o)->φ r):Qe P w H h a (.ext φ):=⟨p,o,st⟩
def XO.stay:∀t m:Heap,XO e C d r t->(∀o,t.get? e=some o->m.get? e=some o)->XO e C d r m:=λt m⟨vs,q,h,z⟩k=>⟨vs,q,k _ h,z⟩
def DX.stay:∀t m:Heap,DX j fs t->(∀o,t.get? j=some o->m.get? j=some o)->DX j fs m:=λt m⟨mA,n,r⟩k=>⟨mA,n.at k,r⟩
def xM{mA:Str->Option Vq}{u:Vq}{y:V}(r:∀f,QB (fs.lookup f)<|mA f)(z:Qd y u)(g:Str):QB ((aN f y fs).lookup g) (if g=f then some u else mA g):=by
 rw[ia];by_cases q:g=f
 ·rw[g_ q,g_ q];exact z
 ·rw[f_ q,f_ q];exact r g
def ou(I:PySem.Within mA (fs.map (·.1))):PySem.Within (λg=>if g=f then some u else mA g) ((aN f y fs).map (·.1)):=λg O=>by
 by_cases q:g=f
 ·rw[q];exact(gq f y fs).1
 ·refine(gq f y fs).2 g (I g λz=>O ?_);show(if g=f then some u else mA g)=none;rw[f_ q];exact z
def yV(I:P6 X i R H s)(x:Re H e C d rr fs)(c:XC X.K C nm bm)(n:Qm X.K C f)(hl:fs.length<1000)(ry:Qd y u)
  (h:∀B m d',P6 X i R m B->Jt H m e C d rr d' (aN f y fs)->Q () B):wpAny (model X.prog X.w) A (setAttr (.ref e) f u) Q E s:=by
 obtain⟨q0,N,bs,sn,sub,ab,col,dd,k0,k1,k2,k3,k5,lk⟩:=c.obj;have hC:=I.kIn _ _ lk;have LN:=S7 (M:=model X.prog X.w) I.kIn (show PySem.W.findIn X.K (.ref C) f=some none from n);obtain⟨vs,a0,Y,Z⟩:=x.obj I;have Zk:(aN f y fs).length<=1000:=by have:=ib f y fs;lia
 obtain⟨L,g,dr,t,os⟩:=s;cases d with
 |none=>
  have WP:fs=[]:=x.2.2;subst WP;refine XB.xset_open (o:={cls:=.ref C,dict:=none,data:=.fields vs}) (od:=none) I.kIn ⟨Y,U,U,True.intro⟩ c.sa (c.mro "object" true zk) λA'=>?_;refine XB.xstore_new c.tl hC LN Y U (λc z=>nomatch z) U λp ee J D hk=>⟨U,?_⟩;have G:e≠L.objs.size:=ME (Mm Y);have nD:H L.objs.size=none:=I.hok.fresh (Ml _);refine h _ _ L.objs.size (P6.two (o1:=.ext (XO e C (some L.objs.size) rr)) (o2:=.ext (DX L.objs.size<|aN f y [])) I x.1 (Ml _) hk ⟨_,J⟩ ?_ ?_) ⟨⟨?_,Zk,G.symm,aa⟩,?_,λ_=>nD,(λj z=>nomatch z)⟩
  ·exact jw ⟨vs,a0,J,Z⟩ ⟨_,J⟩ XO.stay
  ·refine jw ⟨_,D,xM (mA:=λ_=>none) (fs:=[]) (λ_=>True.intro) ry,ou (mA:=λ_=>none) (fs:=[]) λg hg=>absurd U hg⟩ ?_ DX.stay;obtain⟨o',_,_,e1,_⟩:=D;exact⟨o',e1⟩
  ·rw[al G,aa]
  ·intro b o O ne _;rw[al<|au O nD,al ne];exact O
 |some j=>
  obtain⟨mA,ns,r,wi⟩:=x.dict I;obtain⟨od,hd,_⟩:=iB ns;obtain⟨x1,x2,x3,x4⟩:=x;refine XB.xset_open (o:={cls:=.ref C,dict:=some j,data:=.fields vs}) (od:=some od) I.kIn ⟨Y,U,U,hd⟩ c.sa (c.mro "object" true zk) λA'=>?_;refine XB.xstore_old c.tl hC LN Y U U ns wi (by rw[Me,SC];lia) λp ee D sb=>⟨U,?_⟩;have Wb:∃o,p.get? j=some o:=let⟨o,_,_,e',_⟩:=D;⟨o,e'⟩;refine h _ _ j (I.write (o:=.ext (DX j<|aN f y fs)) (x:=j) (e:=j) (by rw[x4];exact True.intro) (.inl U) (λb q O z=>(sb.2 b O).trans z) Wb ?_) ⟨⟨by rw[al x3.symm];exact x1,Zk,x3,aa⟩,?_,(λz=>nomatch z),λ_ z=>MN z⟩
  ·exact jw ⟨_,D,xM r ry,ou wi⟩ Wb DX.stay
  ·intro b o O _ ne;rw[al λz=>ne<|by rw[z]];exact O
end
section
inductive BN(K:ZF)(f:Str)(Q:VK)(x:V)(e:Hp):Prop
 |mk(a C o r t nm bm v:_):x=.ref a->Re e a C (some o) r t->XC K C nm bm->Qm K C f->t.lookup f=some v->Q v e->BN K f Q x e
def Ju(K:ZF)(z:TE)(f:Str):TE:=λe H Q=>z e H λx q=>BN K f Q x q
def xO(J:PE X e i)(G:attributeBase e f X.env (eval e X.env)=eval e X.env):PE X (.Attribute e f o) (Ju X.K i f):=by
 refine⟨?_⟩;intro t s r H Q I h;refine wM G (bL (J t s r H _ I h) λu p z=>?_);obtain⟨x,O,D,rx,a,C,d,r0,m,nm,bm,v,ex,Y,c,n,l,q⟩:=z;subst ex;obtain rfl:u=Value.ref a:=rx;exact yU D Y c n l λN j L Z=>⟨v,O,L,Z,q⟩
inductive BP(K:ZF)(f:Str)(D:Qr)(i:St)(y:V)(x:V)(e:Hp):Prop
 |mk(a C d r t nm bm:_):x=.ref a->Re e a C d r t->XC K C nm bm->Qm K C f->t.length<1000->(∀o d',Jt e o a C d r d' (aN f y t)->D.nx i o)->BP K f D i y x e
def Jv(K:ZF)(O I:TE)(f:Str):TS:=λD e H=>I e H λy q=>O e q λx z=>BP K f D e y x z
def Eh(r:PE X o N)(p:PE X value tv)(m:swapsWith value (some<|.Attribute o f VI) t.line X.env=pure false:=by rfl):PS X (.Assign [.Attribute o f VI] value t) (Jv X.K N tv f):=by
 refine⟨?_⟩;intro e s i H D I h;refine Uc (bL (p e s i H _ I h) λu j⟨y,O,Y,ry,q⟩=>bL (r e j i O _ Y q) λov s2 z=>?_) m;obtain⟨x,M,G,rx,a,C,d,r0,B,nm,bm,ex,Z,c,n,l,v⟩:=z;subst ex;obtain rfl:ov=Value.ref a:=rx;exact yV G Z c n l ry λs3 L d' J R=>⟨i,_,J,v L d' R⟩
end
section
def BQ(C:Vr)(sp:Sp)(E:XK)(t:TA):TE:=λe H Q=>t e H λvs q=>∀a,q a=none->sp (.ref a::vs) (aB q a<|.ext (XO a C none false)) (λv z=>v=.non/\Q (.ref a) z) E
structure Lh(K:ZF)(C f:Vr):Prop where
 init:PySem.W.findIn K (.ref C) "__init__"=some (some<|.ref f)
 fn:PySem.W.isFn K (.ref f)=true
 kp:PySem.W.keepIn K (.ref C)=true
def yW(c:XC X.K C nm bm)(M:Lh X.K C f)(F:P7 X.prog X.w X.K X.mg X.base CX k f fd p sp)(hr:P9 (k+1) X.A)(D:Qk X.K fd p [])
  (hx:gD CX X E) (ee:p.length<=1000) (I:P6 X m R H s) (r:Qb vs i)
  (h:∀a,H a=none->sp (.ref a::vs) (aB H a<|.ext (XO a C none false)) (λv H2=>v=.non/\Q (.ref a) H2) E) :
  wpAny (model X.prog X.w) X.A (call (.ref C) i) (EP X m R Q) X.xe s:=by
 obtain⟨q0,N,bs,sn,sub,ab,col,dd,k0,k1,k2,k3,k5,lk⟩:=c.obj;have hC:=I.kIn _ _ lk;have LI:=S7 (M:=model X.prog X.w) I.kIn M.init;obtain⟨Y,L,XV⟩:∃Y,s.heap.get? f=some Y/\Y.cls=.type "function":=by
  have ht:PySem.W.typeIn X.K (.ref f)=some (.type "function"):=beq_iff_eq.mp M.fn;obtain⟨o,ho,hc⟩:=Option.map_eq_some_iff.mp ht;exact⟨o,I.kIn _ _ ho,hc⟩
 have Z:=h (s.heap.objs.size+1) (I.hok.fresh<|Tf _);have j:Qb (V.ref (s.heap.objs.size+1)::vs) (Value.ref (s.heap.objs.size+1)::i):=.cons U r;have J:(Value.ref (s.heap.objs.size+1)::i).length=p.length:=by
  have e:=j.length;rw[F.len _ _ _ _ Z]at e;exact e.symm
 have kp:∀b o,s.heap.get? b=some o->((s.heap.push<|XB.tupO i).push<|XB.excO C s.heap.objs.size).get? b=some o:=λb o D=>Mh _ (Mh _ D);have G:((s.heap.push<|XB.tupO i).push<|XB.excO C s.heap.objs.size).get? (s.heap.objs.size+1)=some (XB.excO C s.heap.objs.size):=by
  have:=MB (s.heap.push<|XB.tupO i) (o:=XB.excO C s.heap.objs.size) rfl
  rwa [ND]at this
 have O:=I.laid (a:=s.heap.objs.size+1) (o:=.ext (XO (s.heap.objs.size+1) C none false)) (t':=s.toks) kp (Tf _) (jw ⟨_,s.heap.objs.size,G,U,λ_=>rfl⟩ ⟨_,G⟩ XO.stay);have Od:i.length<=sizeLine:=by
  rw[Mg]at J;rw[SC];lia
 obtain⟨q,g,d,t,os⟩:=s;refine XB.xmake c.tl hC LI L XV (E_<|u_ (F.run _ X.stack _ _ ⟨Value.ref (q.objs.size+1)::i,[]⟩ (Value.ref (q.objs.size+1)::i) _ _ E (hr.make C i []) (O.env0.make C i []) (by
  have:=D ⟨(q.push<|XB.tupO i).push<|XB.excO C q.objs.size,g,d,t,os⟩ (Value.ref (q.objs.size+1)::i) O.kIn (by rw[MM];exact J);rw[MM]at this;exact this) j Z) λr s' z=>?_) Od
 cases r with
 |error e=>exact hx m R _ _ e s' O z
 |ok fl=>
  cases fl with
  |ret u=>
   obtain⟨v,B,I3,rv,ev,q3⟩:=O.after z;subst ev;exact⟨rv,⟨V.ref<|q.objs.size+1,B,I3,U,q3⟩⟩
  |next=>exact False.elim z
  |brk=>exact False.elim z
  |cont=>exact False.elim z
def BR(c:XC X.K C nm bm)(M:Lh X.K C f)(F:P7 X.prog X.w X.K X.mg X.base CX k f v m sp)(hr:P9 (k+1) X.A)(Z:Gl X x)(j:X.mg x=some (.ref C))(G:Qk X.K v m [])(N:gD CX X E)(z:m.length<=1000)
  (Y:PA X (e::d) t) (L:(x==("__debug__":Str))=false:=by decide) (J:starEach (e::d) X.env=(false,eval e X.env)::starEach d X.env:=by rfl) (D:(backTo i<|starEach d X.env).any (·.1)=false:=by rfl) :
  PE X (.Call (.Name x p) (e::d) [] i) (BQ C sp E t):=by
 refine⟨?_⟩;intro o s R H Q I h;refine q_ (fJ I Z j ?_ L);refine Np (h₀:=X.base) I.ok.mod.kin M.kp (bL (Y i o s R H _ I h) λus s1⟨vs,B,O,r,q⟩=>⟨O.kIn,?_⟩) J D;exact yW c M F hr G N z O r q
structure Fu(K:ZF)(C:Vr)(m:Str)(f:Vr):Prop where
 rd:PySem.W.readsIn K C (.type "type")=true
 at_:PySem.W.findCls K (.ref C) (.type "type") m=some (.val<|.ref f)
 kp:PySem.W.keepIn K (.ref f)=true
def BS(M:Fu X.K C m f)(F:P7 X.prog X.w X.K X.mg X.base CX k f N ps sp)(hr:P9 k X.A)(hg:Gl X x)(hm:X.mg x=some (.ref C))(B:Qk X.K N ps [])(hx:gD CX X E)(R:PA X (e::d) t)
  (J:(x==("__debug__":Str))=false:=by decide) (G:starEach (e::d) X.env=(false,eval e X.env)::starEach d X.env:=by rfl) (Y:(backTo o<|starEach d X.env).any (·.1)=false:=by rfl)
  (ht:eval (.Call (.Attribute (.Name x p) m G') (e::d) [] o) X.env=(do
   let L <-eval (.Name x p) X.env
   standAt G'.atName
   let(f,first) <-holding [L] (getMethod L m pl)
   callWith o f first (backTo o<|starEach (e::d) X.env) (backToKw o<|keywordEach [] X.env)):=by rfl) :
  PE X (.Call (.Attribute (.Name x p) m G') (e::d) [] o) (wN sp [] E t):=by
 refine⟨?_⟩;intro i s j H Q I h;refine A_ (pl:=pl) (bL (bf (v:=.ref C) hg hm U J i s j H (λv q=>v=.ref C/\q=H) I ⟨U,U⟩) λu s1 z=>?_) ht;obtain⟨xx,q,O,rx,ex,Z⟩:=z;subst ex Z;obtain rfl:u=Value.ref C:=rx;refine XB.own_method O.kIn M.rd M.at_ ?_;refine Np (first:=[]) (h₀:=X.base) I.ok.mod.kin M.kp (bL (R o i _ j q _ (O.tok _) h) λus s2⟨vs,H2,D,r,q2⟩=>⟨D.kIn,?_⟩) G Y;exact mV (us:=us) (vs:=vs) (ds:=[]) (dvs:=[]) F hr B .nil hx D r q2
def BU(h:H a=some o):aB H a o=H:=by
 funext b;unfold aB;by_cases z:b=a
 ·rw[g_ z,z,h]
 ·rw[f_ z]
inductive BV(K:ZF)(Q:VK)(vs:VA)(e:Hp):Prop
 |mk(a j' C d r t nm bm:_):vs=.ref a::j'->j'.length<=1000->Re e a C d r t->XC K C nm bm->Q .non e->BV K Q vs e
def Jw(K:ZF)(t:TA):TE:=λe H Q=>t e H λvs q=>BV K Q vs q
def Ei(hg:Gl X "ValueError")(hm:X.mg "ValueError"=none)(ha:PA X (e::j) t)
  (P':starEach (e::j) X.env=(false,eval e X.env)::starEach j X.env:=by rfl) (K':(backTo i<|starEach j X.env).any (·.1)=false:=by rfl)
  (ht:eval (.Call (.Attribute (.Name "ValueError" p) "__init__" G') (e::j) [] i) X.env=(do
   let ov <-eval (.Name "ValueError" p) X.env
   standAt G'.atName
   let(f,first) <-holding [ov] (getMethod ov "__init__" pl)
   callWith i f first (backTo i<|starEach (e::j) X.env) (backToKw i<|keywordEach [] X.env)):=by rfl) :
  PE X (.Call (.Attribute (.Name "ValueError" p) "__init__" G') (e::j) [] i) (Jw X.K t):=by
 refine⟨?_⟩;intro m s M H Q I h;have hv:bootBuiltins "ValueError"=some (.type "ValueError"):=by decide +kernel
 refine A_ (pl:=pl) (bL (iZ (n:="ValueError") hg hm hv zd zd m s M H (λv D=>v=.ty "ValueError"/\D=H) I ⟨U,U⟩) λu s1 O=>?_) ht;obtain⟨xx,D,R,rx,ex,eh⟩:=O;subst ex eh;obtain rfl:u=Value.type "ValueError":=rx;refine XB.val_method R.kIn ?_;refine Tw (bL (ha i m _ M D _ (R.tok _) h) λus s2 O=>?_) P' K';obtain⟨vs,B,L,r,a,j',C,d,Z,fs,nm,bm,ev,hz,x,c,q2⟩:=O;subst ev;cases r with
 |@cons _ u _ YM Z rr=>
  obtain rfl:u=Value.ref a:=Z;obtain⟨q0,N,bs,sn,sub,ab,col,dd,k0,k1,k2,k3,k5,lk⟩:=c.obj;have hC:=L.kIn _ _ lk;obtain⟨vv,a0,ho,G,J⟩:=x.obj L;have hl:=rr.length;obtain⟨hh,g,d',t',os⟩:=s2;refine E_ (XB.xinit c.tl hC ho U U G (by rw[SC];lia) λh' Yy hk Y⟨a1,h1,h2⟩=>?_);have I3:=L.write (o:=.ext (XO a C d Z)) (x:=a) (e:=a) (t':=t') (by rw[x.1];exact True.intro) (.inl U) (λb q hb z=>hk b q hb z) ⟨_,Y⟩ (jw ⟨Yy,a1,Y,h1,λz=>h2.trans<|J z⟩ ⟨_,Y⟩ XO.stay);rw[BU x.1]at I3;exact⟨.non,B,I3,U,q2⟩
end
abbrev rF(q:List Vq)(k:Nat):Obj:={cls:=.type "list",data:=.seq q.toArray k}
def BW(O i d p o:Expr)(z:List Expr)(f:Scope)(t:Pos)(m q:Vq)(e:Env):
  compTurn (.ListComp O [⟨i,d,[],0⟩,⟨p,o,z,0⟩] f t) 0 m q e=(standAt d.pos>>=λ_=>pyNext m>>=λr=>match r with
   |none=>pure (.done .next)
   |some v=>letOwnedTupleGo i m v>>=λ_=>assign i e v>>=λ_=>
    eval o e>>=λx=>standAt o.pos>>=λ_=>foldedSetIterable o e x>>=λx=>holding [x] (pyIter x)>>=λI=>
     runOwn (.compStart (.ListComp O [⟨i,d,[],0⟩,⟨p,o,z,0⟩] f t) 1 I q e) e>>=λ_=>
     again (.compLoop (.ListComp O [⟨i,d,[],0⟩,⟨p,o,z,0⟩] f t) 0 m q e)):=by rfl
def Ej(I p m i d:Expr)(O:List Expr)(f:Scope)(t:Pos)(o z:Vq)(e:Env):
  compTurn (.ListComp I [⟨p,m,[],0⟩,⟨i,d,O,0⟩] f t) 1 o z e=(do
   standAt d.pos
   let r <-pyNext o
   match r with
   |none=>pure (.done .next)
   |some v=>
    letOwnedTupleGo i o v
    assign i e v
    let mut q:=true
    for c in O do
     if q then q <-isTrue c e (eval c e)
    if q then
     (do let _ <-call (.builtin "list.append") [z,<-eval I e])
    again (.compLoop (.ListComp I [⟨p,m,[],0⟩,⟨i,d,O,0⟩] f t) 1 o z e)):=by rfl
section
def BX
  (a:codeAny (model e w) A (.compLoop (.ListComp VE [⟨p,d,[],0⟩,⟨v,i,T',0⟩] f o) 1 m S' t) R s)
  (b:wpAny (model e w) A (pyIter m) (λz r=>codeAny (model e w) A (.compLoop (.ListComp VE [⟨p,d,[],0⟩,⟨v,i,T',0⟩] f o) 1 z S' t) R r)
   (notedBy (model e w) A t λx r=>R (.error x) r) s) :
  codeAny (model e w) A (.compStart (.ListComp VE [⟨p,d,[],0⟩,⟨v,i,T',0⟩] f o) 1 m S' t) R s:=by
 refine codeAny_of_tree ?_;show wpAny _ _ ((compStart (.ListComp VE [⟨p,d,[],0⟩,⟨v,i,T',0⟩] f o) 1 m S' t).onRaise λx=>do noteFrame x t;standAt theWindowsPlace) _ _ s;refine wpAny_notedAt ?_;unfold compStart;show wpAny _ _ (ask>>=_) _ _ s;refine a_ (wpAny_askSetting<|wpAny_ite ?_);split
 ·first
   |exact a_ (d_<|d_<|And.intro rfl a)
   |exact d_ (And.intro rfl a)
 ·refine a_ (wpAny_rule ?_);show wpAny _ _ (standAt i.pos>>=_) _ _ s;exact a_ (o_<|a_<|j_ b (λz r q=>d_<|And.intro rfl q) λ_ _ x=>x)
end
def BY(J:It)(g:TG)(G:TT)(o:TE)(t:St)(e:VA)(D:Hp)(Q:VA->Hp->Prop):Prop:=∃W:Nat->Nat->VA->Hp->Prop,(∃m,W 0 m e D)/\∀i m e H,W i m e H->
 (J.stop i H/\e.length<=sizeLine/\Q e H) ∨
 (J.go i H/\e.length<=sizeLine/\∀x O,J.yld i H x O->g x t O λq L=>QM t q/\G q L λb I=>if b=true then o q I λy Y=>∃z,z<m/\W (i+1) z (e++[y]) Y else ∃z,z<m/\W (i+1) z e I)
def Fv(J:It)(g:TG)(X2:TI)(g2:TG)(tf:TT)(o:TE)(ix:List (Option Nat))(t:St)(I:Hp)(Q:VK):Prop:=∃W:Nat->Nat->VA->Hp->Prop,(∃m,W 0 m [] I)/\∀i m e H,W i m e H->
 (J.stop i H/\e.length<=sizeLine/\∀D,H D=none->Q (.ref D) (aB H D<|.lst e)) ∨
 (J.go i H/\∀x z,J.yld i H x z->g x (kr ix t) z λq L=>QM (kr ix t) q/\X2 q L λZ Y=>BY Z g2 tf o q e Y λVS G=>∃O,O<m/\W (i+1) O VS G)
def G8(D:TI)(g:TG)(z:TI)(O:TG)(I:TT)(t:TE)(ix:List (Option Nat)):TE:=λe H Q=>D e H λJ q=>Fv J g z O I t ix e q Q
def QO.less(h:QO X p H b)(s:∀x∈q,x∈p):QO X q H b:=
 ⟨h.1,h.2.1,h.2.2.1,h.2.2.2.1,h.2.2.2.2.1,λx O=>h.2.2.2.2.2 x<|(MC.mp O).elim (λz=>MO _ z) λz=>Mj _<|s x z⟩
def Jx
  (R:X.calm=true) (en:X.xe=λ_ _=>False) (hg:PG X t2 g) (hf:PF X T' tf) (he:PE X VE M) (I:P6 X t j H s) (oD:s.heap.get? D=some (rF O k)) (hD:H D=none) (dL:D≠X.env.locals) (dF:D∉X.fs) (dS:X.s₀.heap.objs.size<=D)
  (dC:∀x c,X.env.cells.lookup x=some c->c≠D) (dP:∀p∈X.pn++t,p.1≠D) (vv:Qb d O) (T:oJ X.prog X.w X.K t2 J fp it tn) (st:tn 0 s.heap) (f2:∀b∈fp,QO X t H b) (fD:∀b∈fp,b≠D) (h:BY J g tf M j d H Q) :
  codeAny (model X.prog X.w) X.A (.compLoop (.ListComp VE [⟨t1,i1,[],0⟩,⟨t2,i2,T',0⟩] sc pos) 1 (.ref it) (.ref D) X.env)
   (λr m=>r=.ok .next/\∃VS its' k' G,P6 X t j G m/\m.heap.get? D=some (rF its' k')/\G D=none/\Qb VS its'/\Q VS G) s:=by
 obtain⟨W,⟨m0,w0⟩,V_⟩:=h;refine codeAny_loop U (λn m=>∃i d G O k,P6 X t j G m/\tn i m.heap/\(∀b∈fp,G b=none)/\G D=none/\Qb d O/\m.heap.get? D=some (rF O k)/\W i n d G) ?_ m0 ⟨0,d,H,O,k,I,st,λb L=>(f2 b L).1,hD,vv,oD,w0⟩;intro n s5 z;obtain⟨i,d,H5,O,k,I5,XQ,YI,XZ,vv,oD,w5⟩:=z;show wpAny _ X.A ((compTurn (.ListComp VE [⟨t1,i1,[],0⟩,⟨t2,i2,T',0⟩] sc pos) 1 (.ref it) (.ref D) X.env).onRaise λx=>do noteFrame x X.env;theTreesLotGoes x) _ _ s5;refine wpAny_noted ?_;rw[Ej];have Zw:P6 X ((D,rF O k)::t) j H5 s5:=I5.pins_of λp q=>by
  rcases Mo.mp q with rfl|q
  ·exact⟨oD,XZ,dL,dF,λv z=>nomatch z⟩
  ·exact I5.pin p (Mj _ q)
 have Yc:∀{G:Hp},(∀b∈fp,G b=none)->∀b∈fp,QO X ((D,rF O k)::t) G b:=λ{G}hn b L=>by
  obtain⟨_,B,a2,a3,a4,a5⟩:=f2 b L;refine⟨hn b L,B,a2,a3,a4,λp q=>?_⟩;rcases MC.mp q with z|z
  ·exact a5 p (MO _ z)
  ·rcases Mo.mp z with rfl|z
   ·exact(fD b L).symm
   ·exact a5 p (Mj _ z)
 rcases V_ i n d H5 w5 with⟨stop,C,qn⟩|⟨go,C,step⟩
 ·refine a_ (o_<|a_<|j_ (T.done X U U U R i _ s5 j H5 (λ_ _=>False) Zw (Yc YI) XQ stop) (λr s6⟨hr,I6⟩=>?_) λ_ _ f=>f.elim);subst hr;exact d_ ⟨U,d,O,k,H5,I6.pins_of λp q=>I6.pin p<|Mj _<|Mn _ q,(I6.pin (D,rF O k)<|Mj _ Mf).1,XZ,vv,qn⟩
 ·refine a_ (o_<|a_<|j_ (T.item X U U U R i _ s5 j H5 (λ_ _=>False) Zw (Yc YI) XQ go) (λr s6⟨u,hr,h6⟩=>?_) λ_ _ f=>f.elim);subst hr;refine a_ (j_ h6 (λ_ s7 Z=>?_) λ_ _ f=>f.elim);obtain⟨x,H7,I7,r7,y7,X3,ea⟩:=Z;have et:=I7.pinned (Yc ea) (T.obj _ _ X3);have ee:∀(e:Vq)(m:Vs),X.xe e m->False:=λe m z=>by rw[en]at z;exact z
  refine a_ (j_ (hg _ s7 j H7 x u _ et r7<|step x H7 y7) (λ_ s8 Z=>?_) λ_ _ f=>(ee _ _ f).elim);obtain⟨σ8,H8,I8,x8,q8⟩:=Z;obtain⟨xl,xv⟩:=x8.spec;have Wf:∀{σ9:St}{Y:Hp}{s9:Vs}{pl:List (Vr×Obj)},(∀p∈cS fp s7.heap,p∈pl)->P6 X pl σ9 Y s9->tn (i+1) s9.heap/\∀b∈fp,Y b=none:=λ{σ9 Y s9 pl}q I9=>by
   have pn:∀b o,b∈fp->s7.heap.get? b=some o->s9.heap.get? b=some o/\Y b=none:=λb o L e=>by
    have:=I9.pin (b,o) (Mj _<|q _<|fq L e);exact⟨this.1,this.2.1⟩
   refine⟨T.keep _ _ _ X3 λb L o e=>(pn b o L e).1,λb L=>?_⟩;obtain⟨o,e,_⟩:=T.obj _ _ X3 b L;exact(pn b o L e).2
  refine a_ (j_ (hf _ s8 σ8 H8 _ I8 q8) (λok s9⟨Y,I9,q9⟩=>?_) λ_ _ f=>(ee _ _ f).elim);have pD:∀{σ9:St}{Y:Hp}{s9:Vs},P6 X ((D,rF O k)::t++cS fp s7.heap) σ9 Y s9->s9.heap.get? D=some (rF O k)/\Y D=none:=λ{σ9 Y s9}I9=>by
   have:=I9.pin (D,rF O k) (Mj _<|MO _ Mf);exact⟨this.1,this.2.1⟩
  cases ok with
  |false=>
   obtain⟨m',N,w9⟩:=(show ∃m',m'<n/\W (i+1) m' d Y from by simpa using q9);obtain⟨t9,Z_⟩:=Wf (λp q=>Mj _ q) I9;obtain⟨eh,ei⟩:=pD I9;exact d_ ⟨U,m',N,i+1,d,Y,O,k,(I9.pins_of (pins':=t) λp q=>I9.pin p<|Mj _<|MO _<|Mn _ q).weak xl xv,t9,Z_,ei,vv,eh,w9⟩
  |true=>
   have el:M σ8 Y λy H4=>∃m',m'<n/\W (i+1) m' (d++[y]) H4:=by simpa using q9
   refine a_ (a_<|j_ (he _ s9 σ8 Y _ I9 el) (λyv sA Z=>?_) λ_ _ f=>(ee _ _ f).elim);obtain⟨y,HA,IA,rA,m',N,wA⟩:=Z;obtain⟨er,Z7⟩:=pD IA;have hsz:O.toArray.size<=sizeLine:=by rw[MF,<-vv.length];exact C
   refine a_ (wpAny_list_append_plain (hsz:=hsz) ⟨_,er⟩ λh9 ed ec=>?_);have IB:P6 X (t++cS fp s7.heap) σ8 HA sA:=IA.pins_of λp q=>IA.pin p (Mj _<|(MC.mp q).elim (λz=>MO _<|Mn _ z) λz=>Mj _ z);have IC:P6 X (t++cS fp s7.heap) σ8 HA {sA with heap:=h9}:=IB.turned (it:=D) (t':=sA.toks) (λb o L e=>(ec.2 b L).trans e) Z7 dL (.inr dS) dC λp q=>by
    rcases MC.mp q with z|z
    ·exact dP p (MO _ z)
    ·rcases MC.mp z with z|z
     ·exact dP p (Mj _ z)
     ·exact fD p.1 (iA z).1
   obtain⟨t9,Z_⟩:=Wf (λp q=>Mj _ q) IC;obtain⟨k',es⟩:=ed;refine d_ (d_ ⟨U,m',N,i+1,d++[y],HA,O++[yv],k',IC.unpinned.weak xl xv,t9,Z_,Z7,vv.append<|.cons rA .nil,?_,wA⟩);show h9.get? D=_;rw[es];simp
section
def ui(hc:X.calm=true)(Xb:qa X.N X.env.scope sc d ix=true)(hi:PI X tg t wi)
  (hg:∀C cl s H Y,PG (fz X sc d C cl s H Y) tg g) (eN:∀C cl s H Y,PI (fz X sc d C cl s H Y) t2 i2 X2) (eT:∀C cl s H Y,PG (fz X sc d C cl s H Y) t2 g2) (hf:∀C cl s H Y,PF (fz X sc d C cl s H Y) T' tf) (he:∀C cl s H Y,PE (fz X sc d C cl s H Y) VE te)
  (Xo:∀C cl x,foldedSetIterable i2 (compEnvC sc cl C X.env) x=pure x)
  (hs:∀x,foldedSetIterable t X.env x=pure x) (I:P6 X pins σ H s) (h:G8 wi g X2 g2 tf te ix σ H Q)
  (Yp:∀(C D:Vr)(H':Hp)(s':Vs),Rp X pins σ H' s' C->Q (.ref D) H'->compPost (model X.prog X.w) X.A X.xe use Qf (.ref D) C (.ok .next) s') :
  wpAny (model X.prog X.w) X.A (comprehension (.ListComp VE [⟨tg,t,[],0⟩,⟨t2,i2,T',0⟩] sc pos) sc X.env VB (newList []) false (eval t X.env) use) Qf X.xe s:=by
 obtain⟨hk,N7,VY,Wi,Xi,Xt⟩:=kH Xb;obtain⟨cl,e1,e2,e3⟩:=ja (env:=X.env) (sc:=sc) (λx hx hf=>I.ok.has x.1<|Wi x hx hf);refine wpAny_comprehension_free (use:=use) (cl:=cl) U hs e1 hk Xi (bL (hi pins s σ H _ I h) λv s1 h1=>bL h1 λe5 O h2=>?_);obtain⟨it,Y,tn,J,R,e,M,T,YO,f2,W,⟨m0,w0⟩,V_⟩:=h2;subst e;refine r_ (Tq VY (by intro y hy;simp at hy) (λh₁ Xf Wy=>?_) hk);dsimp only at Xf Wy⊢;generalize ea:O.heap.push {cls:=.type "list",dict:=none,data:=.seq ([]:List Vq).toArray}=G at Xf Wy⊢;have Z8:G.objs.size=O.heap.objs.size+1:=by rw[<-ea,ND]
 have Y2:O.heap.objs.size≠G.objs.size:=by rw[Z8];exact ME (NG _)
 have Xg:O.heap.objs.size<=G.objs.size:=by rw[Z8];exact Tf _
 have VC:∀b,b<O.heap.objs.size->b≠G.objs.size:=λb L=>by rw[Z8];exact ME (Nat.lt_succ_of_lt L)
 have VL:∀b,b<O.heap.objs.size->b≠O.heap.objs.size:=λb L=>ME L;have old:∀b o,O.heap.get? b=some o->h₁.get? b=some o:=λb o e=>Wy.extBut b o (VC b<|Mm e) (Mh _<|ea▸Mh _ e);have XN:h₁.get? O.heap.objs.size=some {cls:=.type "list",data:=.seq ([]:List Vq).toArray}:=Wy.extBut _ _ Y2 (Mh _<|ea▸MB _ U);have fo:∀b∈Y,∃o,O.heap.get? b=some o:=λb L=>let⟨o,B,_⟩:=T.obj _ _ YO b L;⟨o,B⟩;have fD:∀b∈Y,b≠O.heap.objs.size:=λb L=>let⟨o,B⟩:=fo b L;VL b (Mm B);have X5:(fz X sc d G.objs.size cl O R Y).Ok:=zJ M Xb e2 e3 f2 fo Xg;have HD:R O.heap.objs.size=none:=M.hok.fresh (Ml _);have HC:R G.objs.size=none:=M.hok.fresh Xg;have I4:P6 (fz X sc d G.objs.size cl O R Y) [] (kr ix σ) R {O with heap:=h₁,toks:=O.toks+([]:List (Str×Vq)).length}:=by
  refine⟨X5,U,M.bare,Un.kept old,⟨_,Xf,λj x v a b c=>?_⟩,λx c q=>?_,HC,λx c q=>M.freeC x c<|e2 x c q,λp Z=>(by cases Z),M.hok.kept old,?_⟩
  ·
   have a':d[j]?=some x:=a;have b':(ix.map λo=>match o with|some i=>(σ[i]?).getD none|none=>none)[j]?=some (some v):=b;rw[Mt]at b';cases q:ix[j]? with
   |none=>rw[q]at b';cases b'
   |some o=>
    rw[q]at b';cases o with
    |none=>cases b'
    |some i=>
     obtain⟨n1,n2⟩:=Xt j i x q a';have Y4:(σ[i]?).getD none=some v:=MN b';have sv:σ[i]?=some (some v):=by
      cases z:σ[i]? with
      |none=>rw[z]at Y4;cases Y4
      |some y=>rw[z]at Y4;exact e_ some Y4
     obtain⟨m,hn,hl⟩:=M.loc;have kx:=Wi (x,.free) (bZ n2) rfl;obtain⟨u,r,lk⟩:=hl i x v n1 sv (.inr kx);refine⟨u,r,.inr ⟨?_,?_⟩⟩
     ·show(compEnvC sc cl G.objs.size X.env).kindOf x=some .cell\/(compEnvC sc cl G.objs.size X.env).kindOf x=some .free;rw[jc,n2];show some (lQ X.env x .free)=some .cell\/some (lQ X.env x .free)=some .free;unfold lQ;split
      ·exact .inl rfl
      ·exact .inr rfl
     ·obtain⟨c1,XX⟩:=e3 (x,.free) (bZ n2) rfl;refine⟨c1,XX,?_⟩;have XJ:=e2 x c1 XX;rcases lk with⟨z,_⟩|⟨_,c,XW,ez⟩
      ·have z':X.env.scope.names.lookup x=some .local:=z;rcases kx with y|y<;>(rw[y]at z';cases z')
      ·rw[XJ]at XW;cases XW;obtain⟨o,B,hd⟩:=ez;exact⟨o,old c1 o B,hd⟩
  ·obtain⟨v,o,B,hd⟩:=M.cell x c (e2 x c q);exact⟨v,o,old c o B,hd⟩
  ·show(ix.map _).length=d.length;rw[Me,N7]
 have Yw:∀x c,cl.lookup x=some c->c≠O.heap.objs.size:=λx c q z=>by
  obtain⟨v,o,B,hd⟩:=M.cell x c (e2 x c q);exact VL c (Mm B) z
 have loop:∀s₃:Vs,s₃={O with heap:=h₁,toks:=O.toks+([]:List (Str×Vq)).length}->
   codeAny (model X.prog X.w) X.A (.compLoop (.ListComp VE [⟨tg,t,[],0⟩,⟨t2,i2,T',0⟩] sc pos) 0 (.ref it) (.ref O.heap.objs.size)<|compEnvC sc cl G.objs.size X.env)
    (compPost (model X.prog X.w) X.A X.xe use Qf (.ref O.heap.objs.size) G.objs.size) s₃:=by
  rintro s₃ rfl;refine codeAny_loop U (λn s'=>∃i ys H' f' k,P6 (fz X sc d G.objs.size cl O R Y) [] (kr ix σ) H' s'/\tn i s'.heap/\(∀b∈Y,H' b=none)/\H' O.heap.objs.size=none /\
   Qb ys f'/\s'.heap.get? O.heap.objs.size=some {cls:=.type "list",data:=.seq f'.toArray k}/\W i n ys H') ?_ m0
   ⟨0,[],R,[],_,I4,T.keep _ _ _ YO λb _ o e=>old b o e,λb L=>(f2 b L).1,HD,.nil,XN,w0⟩
  intro n s5 z;obtain⟨i,ys,H5,f',k,I5,XQ,YI,XZ,vv,oD,w5⟩:=z;show wpAny _ X.A ((compTurn (.ListComp VE [⟨tg,t,[],0⟩,⟨t2,i2,T',0⟩] sc pos) 0 (.ref it) (.ref O.heap.objs.size)<|compEnvC sc cl G.objs.size X.env).onRaise λx=>do noteFrame x (compEnvC sc cl G.objs.size X.env);theTreesLotGoes x) _ _ s5;refine wpAny_noted ?_;rw[BW];have Zw:P6 (fz X sc d G.objs.size cl O R Y) [(O.heap.objs.size,{cls:=.type "list",data:=.seq f'.toArray k})] (kr ix σ) H5 s5:=I5.pins_of λp Z=>by
   have J':p=(O.heap.objs.size,{cls:=.type "list",data:=.seq f'.toArray k}):=by simpa using Z
   subst J';refine⟨oD,XZ,Y2,λL=>?_,λv z=>(by cases z)⟩;obtain⟨_,o,B,_⟩:=M.stack.mem (show O.heap.objs.size∈mL X.stack from L);exact M7 _ (Mm B)
  have Yc:∀{H':Hp},(∀b∈Y,H' b=none)->∀b∈Y,QO (fz X sc d G.objs.size cl O R Y) [(O.heap.objs.size,({cls:=.type "list",data:=.seq f'.toArray k}:Obj))] H' b:=λ{H'}hn b L=>by
   refine⟨hn b L,(X5.exf b L).1,X5.exfs b L,.inl L,(X5.exf b L).2,λp Z=>?_⟩;have J':p=(O.heap.objs.size,({cls:=.type "list",data:=.seq f'.toArray k}:Obj)):=by
    have z:p∈([]:List (Vr×Obj))++[(O.heap.objs.size,({cls:=.type "list",data:=.seq f'.toArray k}:Obj))]:=Z;simpa using z
   subst J';exact(fD b L).symm
  rcases V_ i n ys H5 w5 with⟨stop,hz,qn⟩|⟨go,step⟩
  ·refine a_ (o_<|a_<|j_ (T.done (fz X sc d G.objs.size cl O R Y) U U U hc i _ s5 (kr ix σ) H5 (λ_ _=>False) Zw (Yc YI) XQ stop) (λr s6⟨hr,I6⟩=>?_) λ_ _ f=>f.elim);subst hr;refine d_ ?_;obtain⟨m,hn,_⟩:=I6.loc;have eS:s6.heap.get? O.heap.objs.size=some {cls:=.type "list",data:=.seq f'.toArray k}:=(I6.pin (O.heap.objs.size,{cls:=.type "list",data:=.seq f'.toArray k}) (by show _∈([]:List (Vr×Obj))++_;simp)).1;have u6:Un (mL X.stack) Y R H5 O.heap s6.heap:=I6.base;have ew:H5 G.objs.size=none:=I6.free;refine Yp _ _ (aB H5 O.heap.objs.size<|.lst ys) s6 ⟨?_,⟨m,hn⟩,by rw[al Y2.symm];exact ew,(VC _ M.lt).symm,λx c q=>?_,MP M.sz Xg,λp Z=>?_⟩ (qn _ XZ)
   ·refine M.call' (s':=s6) (ch:=Y) I6.os ?_ ?_ I6.bare λb L=>⟨(f2 b L).2.2.2.1,(f2 b L).2.1,(f2 b L).2.2.2.2.1,(f2 b L).2.2.2.2.2⟩
    ·refine⟨λb o e n nf nx=>u6.keep b o e n nf nx,λb o e n nf nx=>u6.slot b o e n nf nx,λb o e n nx=>?_,λb o e nx=>u6.there b o e nx,λb xs e=>?_,λb o u e=>?_,λb ps e=>?_⟩
     ·rw[al<|VL b<|Mm e];exact u6.free b o e n nx
     ·rw[al<|au e HD];exact u6.tups b xs e
     ·rw[al<|au e HD];exact u6.frzs b o u e
     ·rw[al<|au e HD];exact u6.tbls b ps e
    ·intro b o e;by_cases L:b=O.heap.objs.size
     ·subst L;rw[aa]at e;cases e;exact⟨hz,f',k,vv,eS⟩
     ·rw[al L]at e;refine(I6.hok b o e).stay (λc v XW q=>q) (λc q=>?_) λc xs q=>?_
      ·rw[al<|au q XZ];exact q
      ·rw[al<|au q XZ];exact q
   ·obtain⟨v,o,B,hd⟩:=M.cell x c q;exact VC c (Mm B)
   ·exact VC p.1 (Mm (M.pin p Z).1)
  ·refine a_ (o_<|a_<|j_ (T.item (fz X sc d G.objs.size cl O R Y) U U U hc i _ s5 (kr ix σ) H5 (λ_ _=>False) Zw (Yc YI) XQ go) (λr s6⟨u,hr,h6⟩=>?_) λ_ _ f=>f.elim);subst hr;refine a_ (j_ h6 (λ_ s7 ei=>?_) λ_ _ f=>f.elim);obtain⟨x,H7,I7,r7,y7,X3,ev⟩:=ei;have ey:=I7.pinned (Yc ev) (T.obj _ _ X3);refine a_ (j_ (hg _ _ _ _ _ _ s7 (kr ix σ) H7 x u _ ey r7<|step x H7 y7) (λ_ s8 ei=>?_) λ_ _ f=>f.elim);obtain⟨σ8,H8,I8,x8,q8⟩:=ei;obtain⟨xl,xv⟩:=x8.spec;have Wf:∀{σ9:St}{H9:Hp}{s9:Vs}{pl:List (Vr×Obj)},(∀p∈cS Y s7.heap,p∈pl)->P6 (fz X sc d G.objs.size cl O R Y) pl σ9 H9 s9->tn (i+1) s9.heap/\∀b∈Y,H9 b=none:=λ{σ9 H9 s9 pl}Z I9=>by
    have pn:∀b o,b∈Y->s7.heap.get? b=some o->s9.heap.get? b=some o/\H9 b=none:=λb o L e=>by
     have:=I9.pin (b,o) (Mj _<|Z _<|fq L e);exact⟨this.1,this.2.1⟩
    refine⟨T.keep _ _ _ X3 λb L o e=>(pn b o L e).1,λb L=>?_⟩;obtain⟨o,e,_⟩:=T.obj _ _ X3 b L;exact(pn b o L e).2
   refine a_ (j_ (eN _ _ _ _ _ _ s8 σ8 H8 _ I8 q8) (λzv s9 h9=>?_) λ_ _ f=>f.elim);refine a_ (o_<|a_<|wpAny_of_eq (Xo _ _ zv)<|a_<|p_<|j_ h9 (λjt WB ek=>?_) λ_ _ f=>f.elim);obtain⟨e0,ed,e7,J2,Yi,Zu,et,T2,ee,es,eg⟩:=ek;subst Zu;have pD:=et.pin (O.heap.objs.size,{cls:=.type "list",data:=.seq f'.toArray k}) (Mj _<|MO _<|by simp);have en:P6 (fz X sc d G.objs.size cl O R Y) (cS Y s7.heap) σ8 Yi WB:=et.pins_of λp Z=>et.pin p (Mj _<|Mj _ Z);have nf:O.heap.objs.size∉mL X.stack:=λL=>by
    obtain⟨_,o,B,_⟩:=M.stack.mem L;exact M7 _ (Mm B)
   have eh:∀b∈ed,QO (fz X sc d G.objs.size cl O R Y) (cS Y s7.heap) Yi b:=λb L=>(es b L).less λp Z=>Mj _ Z;have er:∀b∈ed,b≠O.heap.objs.size:=λb L=>((es b L).2.2.2.2.2 (O.heap.objs.size,{cls:=.type "list",data:=.seq f'.toArray k})<|Mj _<|MO _<|by simp).symm;have dP:∀p∈([]:List (Vr×Obj))++cS Y s7.heap,p.1≠O.heap.objs.size:=λp Z=>fD p.1 (iA<|by simpa using Z).1;have el:=Jx (X:=fz X sc d G.objs.size cl O R Y) (t1:=tg) (i1:=t) (t2:=t2) (i2:=i2) (sc:=sc) (pos:=pos) hc U (eT _ _ _ _ _) (hf _ _ _ _ _) (he _ _ _ _ _) en pD.1 pD.2.1 Y2 nf (Ml _) (λx c q=>Yw x c q) dP vv T2 ee eh er eg;refine a_ (wpAny_runOwn<|u_ (BX el<|T2.self _ 0 _ _ _ ee el) λr sA hA=>?_);obtain⟨rfl,eF,ec,kA,HA,IA,eH,Z7,eL,m',hm,wA⟩:=hA;obtain⟨tA,eb⟩:=Wf (λp Z=>Z) IA;exact d_ ⟨U,m',hm,i+1,eF,HA,ec,kA,(IA.pins_of (pins':=[]) λp Z=>nomatch Z).weak xl xv,tA,eb,Z7,eL,eH,wA⟩
 exact codeAny_compStart_list (loop _ U) (T.self X.A 0 _ _ _ (T.keep _ _ _ YO λb _ o e=>old b o e)<|loop _ U)
def G9(p:X.calm=true)(J:qa N sc0 o N' ix=true)(M:PI X f t wi)
  (R:∀C e s H z,PG (fz X o N' C e s H z) f g) (Y:∀C e s H z,PI (fz X o N' C e s H z) d i X2) (O:∀C e s H z,PG (fz X o N' C e s H z) d g2) (j:∀C e s H z,PF (fz X o N' C e s H z) T' tf) (v:∀C e s H z,PE (fz X o N' C e s H z) VE te)
  (eN:X.N=N:=by rfl) (Z:∀C e x,foldedSetIterable i (compEnvC o e C X.env) x=pure x:=by intro _ _ _;rfl) (eS:X.env.scope=sc0:=by rfl) (hs:∀x,foldedSetIterable t X.env x=pure x:=by intro _;rfl) :
  PE X (.ListComp VE [⟨f,t,[],0⟩,⟨d,i,T',0⟩] o pos) (G8 wi g X2 g2 tf te ix):=by
 refine⟨?_⟩;intro r s σ H Q I h;subst eN eS;rw[eval_ListComp];refine ui (use:=none) p J M R Y O j v Z hs I h λC D G s' L q=>?_;obtain⟨m,B⟩:=L.ns;exact⟨m,B,λh' sb=>⟨.ref D,G,L.gone sb,U,q⟩⟩
def yX(hN:X.N.Nodup)(ea:X.N[i]?=some y)(hy:X.env.scope.names.lookup y=some .local)(hc:X.calm=true)(Xb:qa N sc0 r N' ix=true)(hi:PI X J t wi)
  (hg:∀C o s H O,PG (fz X r N' C o s H O) J g) (et:∀C o s H O,PI (fz X r N' C o s H O) R p X2) (ee:∀C o s H O,PG (fz X r N' C o s H O) R g2) (hf:∀C o s H O,PF (fz X r N' C o s H O) Z tf) (he:∀C o s H O,PE (fz X r N' C o s H O) VE te)
  (eN:X.N=N:=by rfl) (Xo:∀C o x,foldedSetIterable p (compEnvC r o C X.env) x=pure x:=by intro _ _ _;rfl) (eS:X.env.scope=sc0:=by rfl) (hs:∀x,foldedSetIterable t X.env x=pure x:=by intro _;rfl)
  (ei:swapsWith (.ListComp VE [⟨J,t,[],0⟩,⟨R,p,Z,0⟩] r f) (some<|.Name y G) spos.line X.env=pure true:=by rfl) :
  PS X (.Assign [.Name y G] (.ListComp VE [⟨J,t,[],0⟩,⟨R,p,Z,0⟩] r f) spos) (zK i<|G8 wi g X2 g2 tf te ix):=by
 refine⟨?_⟩;intro d s σ H Dn I h;subst eN eS;rw[exec_Assign_Name_used _ _ _ _ ei];refine a_ (o_<|a_ ?_);show wpAny _ X.A (do let _ <-comprehension (.ListComp VE [⟨J,t,[],0⟩,⟨R,p,Z,0⟩] r f) r X.env _ (newList []) false (eval t X.env) (some<|assign (.Name y G) X.env)) _ _ s;refine a_ (j_ (ui (use:=some (assign (.Name y G) X.env)) (Qf:=λ_ j=>SP X d Dn .next j) hc Xb hi hg et ee hf he Xo hs I h λC D M j L q=>?_) (λ_ j hq=>d_<|d_ hq) λ_ _ e=>e);show wpAny _ X.A (assign (.Name y G) X.env<|.ref D) _ _ j;refine T_ (ky L.inv hN ea (.inl hy) (v:=.ref D) U (λs1 I1 Zi=>?_)<|.inr hy);obtain⟨a,sb,ha⟩:=Zi;have Y:C≠a:=by
  rcases ha with z|z
  ·rw[z];exact L.loc
  ·exact(L.cel y a z).symm
 obtain⟨m,B⟩:=L.ns;have L1:Rp X d (σ.set i (some<|.ref D)) M s1 C:=⟨I1,⟨m,B.sameBut sb Y⟩,L.free,L.loc,L.cel,L.abv,L.pin⟩;exact⟨m,B.sameBut sb Y,λh' en=>⟨_,M,L1.gone en,q⟩⟩
end
def iy:bootBuiltins "range"=some (.type "range"):=by decide +kernel
def oy(q:Vy):VA:=q.map λ(k:Nat)=>V.int (k:Int)
section
variable{X:Cx}
def iz:eD X (.type "range") (λi H Q=>∃n:Nat,i=[.int n]/\∀p,H p=none->Q (.ref p) (aB H p<|.rng 0 n)):=by
 intro o s m H i d Q I r h;obtain⟨n,rfl,q⟩:=h;obtain⟨u,rfl,t,rfl⟩:=hZ r;refine call_range_1 ⟨.ref _,_,I.laid (λb u e=>Mh _ e) (Ml _) ?_,U,q _ I.fresh⟩;exact⟨_,_,_,MB _ U⟩
def yY:∀(n:Nat)(q:Array Vq),ItemsOf (λi v=>∃t,v=Value.int (0+(i:Int)*1) t) q n->Qb (oy<|List.range n) q.toList:=by
 intro n q h;obtain⟨o,r⟩:=h;have key:∀(l:List Vq)(k:Nat),(∀i v,l[i]?=some v->∃t,v=Value.int ((k+i:Nat):Int) t)->Qb (oy<|List.range' k l.length) l:=by
  intro l;induction l with
  |nil=>intro k _;exact .nil
  |cons x l D=>
   intro k z;have:=z 0 x (by simp);refine .cons (show Qd (V.int ((k:Nat):Int)) x from by obtain⟨t,rfl⟩:=this;exact⟨t,by simp⟩) ?_;exact D (k+1) λi v e=>by
    obtain⟨t,rfl⟩:=z (i+1) v (by simpa using e);exact⟨t,by congr 2;lia⟩
 have e:=key q.toList 0 λi v e=>by
  obtain⟨O,Y⟩:=Mc.mp e;have L:i<q.size:=by simpa using O
  have:=r i v (by rw[<-Array.getElem?_toList];exact e);obtain⟨t,I⟩:=this;exact⟨t,by rw[I];congr 1;lia⟩
 rw[NE,o]at e;rw[List.range_eq_range'];exact e
def gj(O:X.calm=true):eD X (.type "list") (λd H Q=>∃(p:Vr)(n:Nat),d=[.ref p]/\H p=some (.rng 0 n)/\n<=100000/\∀l,H l=none->Q (.ref l) (aB H l<|.lst<|oy<|List.range n)):=by
 intro i s N H d j Q I r h;obtain⟨p,n,rfl,L,J,q⟩:=h;obtain⟨u,rfl,Y⟩:=hZ r;cases Y;obtain⟨t,u,v,e⟩:=I.hok p _ L;have sz:(100000:Nat)<=sizeLine:=by decide
 refine call_list_range (I.ok.hd O) e (small_one zo zo zo zo) (n:=n) (by rw[rangeSize_one];split<;>lia) zo λf Z z c k o m=>?_;have G:=yY n z m;have D:(oy<|List.range n).length=n:=by simp[oy]
 refine⟨.ref _,_,I.laid k (Ml _) ?_,U,q _ I.fresh⟩;exact⟨by rw[D];lia,z.toList,c,G,by simpa using o⟩
end
def Bt(p:Vr)(H q:Hp):Prop:=∀b o,H b=some o->b≠p->q b=some o
def oz(c:Vr)(e:Str):HO:=.ext λh=>h.CodeRec (.ref c) e
def iY(f:Vr)(o:Obj):HO:=.ext λh=>h.get? f=some o
def BZ(x:h.CodeRec (.ref c) i):Qe P w H h c (oz c i):=by
 refine⟨x,?_,λd m y k=>?_⟩
 ·obtain⟨q,o,vs,t,e,g,_⟩:=x;cases e;exact⟨o,g⟩
 ·obtain⟨q,o,vs,t,e,g,r⟩:=y;cases e;exact⟨c,o,vs,t,U,k o g,r⟩
def rG(x:h.get? f=some o):Qe P w H h f (iY f o):=⟨x,⟨o,x⟩,λ_ _ y k=>k o y⟩
def Qo(H:Hp)(P:Vr)(e:Str):Prop:=∃o,H P=some (.tbl o)/\TriplesOk o.toList/\∀t v,codeAmong t o.toList=some v->∃c,v=.ref c/\H c=some (oz c e)
def Qo.bt(h:Qo H P t)(k:∀b o,H b=some o->r b=some o):Qo r P t:=by
 obtain⟨m,a,b,c⟩:=h;exact⟨m,k _ _ a,b,λi v e=>let⟨d,e1,e2⟩:=c i v e;⟨d,e1,k _ _ e2⟩⟩
def wu:∀(l:List Vq),TriplesOk l->codeAmong p (l++[a,b,c])=some v->codeAmong p l=some v\/v=c:=by
 intro l h
 fun_induction TriplesOk l with
 |case1=>
  intro e;refine .inr ?_;rw[NO]at e;cases a<;>cases b<;>simp[codeAmong]at e;exact e.2.symm
 |case2 t i o d z r O=>
  intro e;simp only[Nl,codeAmong]at e⊢;split at e
  ·rename_i q;rw[g_ q];exact .inl e
  ·rename_i q;rw[f_ q];exact O h e
 |case3=>exact h.elim
def rH:∀(l:List Vq),TriplesOk l->TriplesOk (l++[.int a t,.int b u,c]):=by
 intro l h
 fun_induction TriplesOk l with
 |case1=>exact trivial
 |case2 e i o d z r q=>exact q h
 |case3=>exact h.elim
structure wv(base:Heap)(mg:Str->Option Vq)(c P:Vr):Prop where
 hd:PySem.W.CodeHd base c P
 bm:base.BuiltinsAt mg P
 gl:mainGlobals≠P
def xP(X:Cx)(H:Hp)(f:Vr)(e:Str)(params:Arguments)(t:Expr)(i:Scope):Prop:=
 ∃(c:Vr)(pm ctv:Vq)(o:List (Str×Vr)),H f=some (iY f<|PySem.W.kla_obj "<lambda>" e params t i o pm c ctv)/\H c=some (oz c e)/\(∀x d,o.lookup x=some d->X.env.cells.lookup x=some d)/\∀x∈i.names,x.2=.free->∃d,o.lookup x.1=some d
def kc(N:Vx)(sc0 e:Scope)(t fr:Vx)(ix:Vy):Bool:=
 e.kind==.function && !e.isCoroutine && !e.isGenerator&&ix.length==fr.length&&decide (t.length<=1)&&t.all (λx=>e.names.lookup x==some .local) &&
 e.names.all (λp=>p.2 != .cell&&(p.2 != .free||(sc0.names.lookup p.1==some .cell||sc0.names.lookup p.1==some .free))) &&
 (List.range fr.length).all λj=>match ix[j]?,fr[j]? with
  |some i,some x=>N[i]?==some x&&e.names.lookup x==some .free
  |_,_=>false
def oA(h:kc N sc0 t o fr ix=true):t.kind=.function/\t.isCoroutine=false/\t.isGenerator=false/\ix.length=fr.length/\o.length<=1/\(∀x∈o,t.names.lookup x=some .local) /\
  (∀p∈t.names,p.2≠.cell)/\(∀p∈t.names,p.2=.free->sc0.names.lookup p.1=some .cell\/sc0.names.lookup p.1=some .free)/\∀(j:Nat)(x:Str),fr[j]?=some x->∃i,ix[j]?=some i/\N[i]?=some x/\t.names.lookup x=some .free:=by
 unfold kc at h;simp only[Nh,MT,S5,bne_iff_ne,Bool.or_eq_true,ne_eq,Tu,G_]at h;obtain⟨⟨⟨⟨⟨⟨⟨r,d⟩,D⟩,L⟩,Y⟩,G⟩,I⟩,J⟩:=h;refine⟨r,d,D,L,Y,G,λp O=>(I p O).1,λp O Z=>?_,λj x e=>?_⟩
 ·rcases(I p O).2 with z|z
  ·exact absurd Z z
  ·exact z
 ·have hj:j<fr.length:=(Mc.mp e).1;have:=J j (Nn.mpr hj);rw[e]at this;cases q:ix[j]? with
  |none=>rw[q]at this;simp at this
  |some i=>
   rw[q]at this;exact⟨i,U,by simpa using this⟩
section
variable{X:Cx}{m:List (Vr×Obj)}{j:St}{H:Hp}{s:Vs}{params:Arguments}{t:Expr}{sc sc0:Scope}{r:Pos}{c P:Vr}{N R fr:Vx}{ix:Vy}{i:Str}
def Jy(X:Cx)(P:Vr)(i:Str)(params:Arguments)(t:Expr)(sc:Scope):TE:=λj H Q=>Qo H P i/\∀f q,H f=none->Qo q P i->xP X q f i params t sc->Bt P H q->Q (.ref f) q
def Hd(L:wv X.base X.mg c P)(Xz:X.env.code=.ref c)(hok:kc X.N X.env.scope sc R fr ix=true)(hq:X.env.qual++"<lambda>"=i)(et:defaultsOf params X.env=([],[]):=by rfl):PE X (.Lambda params t sc r) (Jy X P i params t sc):=by
 refine⟨λm s j H Q I h=>?_⟩;obtain⟨T,q⟩:=h;obtain⟨Y,tP,tT,tA⟩:=id T;obtain⟨_,_,_,_,_,_,_,Xy,_⟩:=oA hok;obtain⟨M,e1,e2,e3⟩:=ja (env:=X.env) (sc:=sc) (λx hx B=>I.ok.has x.1<|Xy x hx B);subst hq;have oP:s.heap.get? P=some (PySem.W.tabObj Y):=I.hok P _ tP;obtain⟨bm,ob,b1,b2,b3,b4,b5,b6⟩:=L.bm;have BM:s.heap.BuiltinsAt X.mg P:=⟨bm,ob,b1,b2,b3,b4,I.bk _ _ b5,b6⟩;have G:s.heap.Ns mainGlobals X.mg:=I.mod.glob.keeps I.bk;refine PySem.W.kla_eval et ?_;cases hit:codeAmong r Y.toList with
 |some cv=>
  obtain⟨d,rfl,hd⟩:=tA r cv hit;refine PySem.W.kla_makeFunctionHit e1 I.ok.glob G Xz (L.hd.keeps I.bk) oP tT hit BM λctv f tk k sz=>?_;have B:H f.objs.size=none:=I.hok.fresh sz;have I1:P6 X m j H {s with heap:=f,toks:=tk}:=I.kept k;have C:∀b o,H b=some o->(aB H f.objs.size<|iY f.objs.size<|PySem.W.kla_obj "<lambda>" (X.env.qual++"<lambda>") params t sc M ((X.mg "__name__").getD .none) d ctv) b=some o:=λb o e=>by rw[al<|au e B];exact e
  refine⟨.ref f.objs.size,_,I1.laid (s:={s with heap:=f,toks:=tk}) (t':=tk) (o:=iY f.objs.size (PySem.W.kla_obj "<lambda>" (X.env.qual++"<lambda>") params t sc M ((X.mg "__name__").getD .none) d ctv)) (λb u e=>Mh _ e) (Ml _)<|rG<|MB _ U,U,q _ _ B (T.bt C) ⟨d,_,ctv,M,aa,C _ _ hd,e2,e3⟩ λb o e _=>C b o e⟩
 |none=>
  refine PySem.W.kla_makeFunction e1 I.ok.glob G Xz (L.hd.keeps I.bk) oP tT hit L.gl BM λd ctv f tk ext O Oh rec er=>?_;generalize ho:PySem.W.kla_obj "<lambda>" (X.env.qual++"<lambda>") params t sc M ((X.mg "__name__").getD .none) d ctv=lo;have en:P≠d:=ME (Ms (Mm oP) O);have es:P≠f.objs.size:=ME (Ms (Mm oP)<|MP O<|NX Oh);have eh:d≠f.objs.size:=ME Oh;have nd:H d=none:=I.hok.fresh O;have nf:H f.objs.size=none:=I.hok.fresh (MP O<|NX Oh)
  let Z:Hp:=aB (aB (aB H P<|.tbl<|Y++#[rawInt r.line,rawInt r.col,.ref d]) d<|oz d<|X.env.qual++"<lambda>") f.objs.size (iY f.objs.size lo)
  have C:∀b o,H b=some o->b≠P->Z b=some o:=λb o e D=>by
   show aB _ _ _ b=_;rw[al<|au e nf,al<|au e nd,al D];exact e
  have ee:Z P=some (.tbl<|Y++#[rawInt r.line,rawInt r.col,.ref d]):=by
   show aB _ _ _ P=_;rw[al es,al en,aa]
  have J:Z d=some (oz d<|X.env.qual++"<lambda>"):=by
   show aB _ _ _ d=_;rw[al eh,aa]
  have ei:Z f.objs.size=some (iY f.objs.size lo):=aa;have dn:∀b o,s.heap.get? b=some o->H b=none->Z b=none:=λb o e n=>by
   have D:=Mm e;show aB _ _ _ b=_;rw[al<|ME<|Ms D<|MP O<|NX Oh,al<|ME<|Ms D O,al λz=>by rw[z,tP]at n;cases n];exact n
  have keep:∀b o,b≠P->s.heap.get? b=some o->(f.push lo).get? b=some o:=λb o D e=>Mh _ (ext b o D e);have nP:∀b,H b=none->b≠P:=λb n z=>by rw[z,tP]at n;cases n
  have nt:∀b u,H b=some u->(∀x,u≠.tbl x)->b≠P:=λb u e no z=>by rw[z,tP]at e;exact no _ (MN e).symm
  have ea:(f.push lo).get? P=some (PySem.W.tabObj<|Y++#[rawInt r.line,rawInt r.col,.ref d]):=Mh _ er;have un:Un X.fs [] H Z s.heap (f.push lo):=by
   refine⟨λb o e n _ _=>keep b o (nP b n) e,λb o e n _ _=>⟨o.slots,keep b o (nP b n) e⟩,λb o e n _=>dn b o e n,λb o e _=>?_,λb xs e=>C b _ e (nt b _ e λx z=>nomatch z),λb o u e=>C b _ e (nt b _ e λx z=>nomatch z),λb qs e=>?_⟩
   ·by_cases D:b=P
    ·exact⟨_,by rw[D];exact ea⟩
    ·exact⟨o,keep b o D e⟩
   ·by_cases D:b=P
    ·subst D;rw[tP]at e;cases e;exact⟨_,ee⟩
    ·exact⟨#[],by rw[C b _ e D];simp⟩
  have hk:Qt X.prog X.w Z (f.push lo):=λb u e=>by
   by_cases h1:b=f.objs.size
   ·subst h1;rw[ei]at e;cases e;exact rG (MB _<|by rw[<-ho];rfl)
   ·by_cases h2:b=d
    ·subst h2;rw[J]at e;cases e;exact BZ (rec.push _)
    ·by_cases h3:b=P
     ·subst h3;rw[ee]at e;cases e;exact ea
     ·have e':H b=some u:=by
       have e2:aB _ _ _ b=some u:=e;rw[al h1,al h2,al h3]at e2;exact e2
      refine(I.hok b u e').stay (λcc v hc q=>?_) (λcc q=>C cc _ q (nt cc _ q λx z=>nomatch z)) λcc xs q=>C cc _ q (nt cc _ q λx z=>nomatch z);rcases hc with z|z
      ·rw[z]at q⊢;exact keep b v h3 q
      ·exact keep cc v (nt cc _ z λx w=>nomatch w) q
  refine⟨.ref f.objs.size,Z,I.un (t':=tk) un hk,U,q _ _ nf ⟨_,ee,?_,λp v e=>?_⟩ ⟨d,(X.mg "__name__").getD .none,ctv,M,?_,J,e2,e3⟩ C⟩
  ·rw[Array.toList_append];exact rH _ tT
  ·rw[Array.toList_append]at e;rcases wu _ tT e with z|z
   ·obtain⟨d',w1,w2⟩:=tA p v z;exact⟨d',w1,C _ _ w2 (nt _ _ w2 λx w=>nomatch w)⟩
   ·exact⟨d,z,J⟩
  ·rw[ei,<-ho]
end
abbrev rJ(e:Str)(o:Scope)(L f:Vr)(c:Vr)(t:List (Str×Vr)):Env:=PySem.W.envX e o L f (.ref c) t
section
variable{x:Str}{p:Vx}
def B0{vs:VA}{e:List Vq}{v:V}(o:p.length<=1)(i:vs.length=p.length)(r:Qb vs e)(a:p[0]?=some x)(b:vs[0]?=some v):∃u,Qd v u/\(p.zip e).reverse.lookup x=some u:=by
 cases p with
 |nil=>cases a
 |cons y t=>
  have q:t=[]:=Nw.mp (by simpa using o);subst q;cases r with
  |nil=>cases b
  |cons O L=>
   have ex:y=x:=by simpa using a
   subst ex;rename_i D I _ _;have z:D=v:=by simpa using b
   subst z;exact⟨I,O,by simp⟩
variable{sp:Sp}{i:Vw}{K:ZF}
def Qj.okC{P:Vt}{w:Vu}{r:Str->Option Vq}{o:Heap}{x e:Str}{st:Stmt}{f c:Vr}{N p:Vx}{k:Nat}(F:Qj K x e st f i)(Y:i.code=.ref c)(S:ax N p (aj st))(len:∀vs H Q E,sp vs H Q E->vs.length=p.length)
  (I:∀(A:Vv)(outer:List Env)(s:Vs)(H:Hp)(vs:VA)(Q:VK)(E:XK),P9 k (A.deeper<|envOfC e (aj st) s.heap.objs.size f<|.ref c)->sp vs H Q E->
   ∃t,Rb (oM ce P w K r o N e (aj st) f (.ref c) A outer s H E).nox (cq st) t/\t {nx:=λ_ z=>Q .non z,rt:=Q} (start N vs) H):P7 P w K r o ce (k+1) f i p sp:=by
 obtain⟨Z,m,kV,doc,pm,J,Of,ct,G,rfl,d,O⟩:=F.ex;have L:Of=.ref c:=Y;subst L;refine zA d O S len λA outer s H vs Q E hr D=>?_;obtain⟨t,h,q⟩:=I A outer s H vs Q E hr D;exact⟨t,h.nox,q⟩
def yZ{P:Vt}{w:Vu}{K:ZF}{j mb:Str->Option Vq}{CX:y9}{k:Nat}{fa a c T:Vr}{i:Vw}{x:Str}{sp:Sp}{O:Vs}{vs:List Vq}{ns:List Int}
  (KX:K.In O.heap) (Zj:O.heap.Ns mainGlobals j) (I:O.heap.Ns builtinsNs mb) (eb:∀x:Str,x≠"__name__"->mb x=bootBuiltins x) (er:O.heap.NoLimit) (hg:O.gens=#[])
  (eg:∃bm J,j "__builtins__"=some (.ref bm)/\bm≠builtinsNs/\O.heap.get? bm=some J/\J.cls=.type "module"/\J.dict=some builtinsNs/\J.data=.plain)
  (V9:PySem.W.CodeHd O.heap c T) (D:O.heap.get? T=some (PySem.W.tabObj #[])) (ey:PySem.W.noTabs K=true)
  (N:O.heap.get? a=some {cls:=.type "list",data:=.seq vs.toArray}) (X:IntsAre vs ns) (hl:ns.length<=sizeLine) (hr:P9 k callerA)
  (F:∀t:Heap,K.In t->t.Ns mainGlobals j->wv t j c T->P7 P w K j t CX k fa i [x] sp) (W0:∀(s:Vs)(u:Vq),BindsTo s i ⟨[u],[]⟩ [(x,u)])
  (Ww:∀H:Hp,P8 K H a (ns.map V.int)->H T=some (.tbl #[])->sp [.ref a] H (λv _=>v=.bl true) λ_ _ _=>False)
  (ew:∀H e f,CX [] H O (λ_ _ _=>False) e f->False) :
  codeAny (model P w) callerA (.call (.ref fa) ⟨[.ref a],[]⟩) (λr f=>r=.ok (.ret<|.bool true)/\OldK O.heap f.heap/\f.os=O.os/\AllBare f.gens) O:=by
 have rv:=o7 X;have ed:=X.length;have et:a≠T:=λz=>by
  rw[z,D]at N;cases N
 have kT:K.lookup T=none:=by
  cases q:K.lookup T with
  |none=>rfl
  |some o=>
   have e:=KX T o q;rw[D]at e;cases e;have C:=MT.mp ey (T,_) (PySem.W.mem_of_lookupK q);exact absurd (show false=true from C) MA
 have Y:∀H:Hp,P8 K H a (ns.map V.int)->H T=some (.tbl #[])->Qt P w H O.heap->(∀b,H b≠none->b=a\/b=T)->(H a=none\/∃o xs,H a=some (.frz o<|.lst xs))->(H a≠none->K.lookup a=none)->
   codeAny (model P w) callerA (.call (.ref fa) ⟨[.ref a],[]⟩) (λr f=>r=.ok (.ret<|.bool true)/\OldK O.heap f.heap/\f.os=O.os/\AllBare f.gens) O:=by
  intro H hS en hok hA hO hK;have no:∀{b:Vr}{o:Obj},O.heap.get? b=some o->o.cls≠.none->o.cls≠.type "list"->H b=none:=λ{b o}e M C=>by
   cases q:H b with
   |none=>rfl
   |some u=>
    rcases hA b (by rw[q];simp)with z|z
    ·subst z;rw[N]at e;cases e;exact absurd U C
    ·subst z;rw[D]at e;cases e;exact absurd U M
  have ez:∀{b:Vr}{o:Obj}{R:Array DictEntry}{ep:Nat},O.heap.get? b=some o->o.data=.dict R ep->H b=none:=λ{b o R ep}e d=>by
   cases q:H b with
   |none=>rfl
   |some u=>
    rcases hA b (by rw[q];simp)with z|z
    ·subst z;rw[N]at e;cases e;cases d
    ·subst z;rw[D]at e;cases e;cases d
  have L:∀{b:Vr}{m:Str->Option Vq},O.heap.Ns b m->(pS O.heap H).Ns b m:=λ{b m}⟨o,R,ep,e,d,r⟩=>⟨o,R,ep,jz e<|ez e d,d,r⟩;have eh:K.In (pS O.heap H):=λb o e=>jz (KX b o e) (by
   cases q:H b with
   |none=>rfl
   |some u=>
    rcases hA b (by rw[q];simp)with z|z
    ·subst z;rw[hK<|by rw[q];simp]at e;cases e
    ·subst z;rw[kT]at e;cases e)
  have hM:Mod K j (pS O.heap H):=⟨eh,L Zj,⟨mb,L I,eb⟩,let⟨mc,M,C⟩:=er;⟨mc,L M,C⟩⟩;have ev:wv (pS O.heap H) j c T:=by
   refine⟨?_,?_,λz=>?_⟩
   ·obtain⟨o,us,ei,tf,ee,tg,ek,ec,tt,e1,e2,r⟩:=V9;exact⟨o,us,ei,tf,ee,tg,ek,ec,tt,jz e1 (no e1 (by rw[e2];nofun)<|by rw[e2];intro z;injection z with z;exact absurd z zd),e2,r⟩
   ·obtain⟨bm,J,b1,b2,b3,b4,b5,b6⟩:=eg;refine⟨bm,J,b1,b2,λz=>?_,λz=>?_,jz b3 (no b3 (by rw[b4];nofun)<|by rw[b4];intro z;injection z with z;exact absurd z zd),b4,b5,b6⟩
    ·obtain⟨o,R,ep,e,d,_⟩:=Zj;rw[<-z,b3]at e;cases e;rw[b6]at d;cases d
    ·rw[z,D]at b3;cases b3;cases b4
   ·obtain⟨o,R,ep,e,d,_⟩:=Zj;rw[z,D]at e;cases e;cases d
  have e0:RH P w K j (pS O.heap H) callerA [] O H:=⟨U,hM,λb o e=>CJ e,Nat.le_of_eq<|yf _ _,trivial,λb I=>absurd (show b∈([]:List Vr)from I) (by simp),hok,.of_eq hg⟩;refine u_ ((F _ eh (L Zj) ev).run callerA [] O H ⟨[.ref a],[]⟩ [.ref a] [.ref a] _ _ hr e0 (W0 O<|.ref a) (.cons U .nil)<|Ww H hS en) λr f h=>?_;cases r with
  |error e=>exact(ew H e f h).elim
  |ok fl=>
   cases fl with
   |next=>exact False.elim h
   |brk=>exact False.elim h
   |cont=>exact False.elim h
   |ret u=>
    obtain⟨v,H',os,bare,un,G,r',q⟩:=h;have q':v=.bl true:=q;subst q';obtain rfl:u=Value.bool true:=r';obtain⟨more,hm⟩:=un.tbls T #[] en;have el:f.heap.get? T=some (PySem.W.tabObj<|#[]++more):=G T _ hm;have kp:∀b o,b≠T->O.heap.get? b=some o->f.heap.get? b=some o:=λb o Z6 e=>by
     cases q:H b with
     |none=>exact un.keep b o e q (by intro z;exact absurd (show b∈([]:List Vr)from z) (by simp)) (by simp)
     |some u=>
      rcases hA b (by rw[q];simp)with z|z
      ·subst z;rcases hO with z|⟨J,xs,z⟩
       ·rw[q]at z;cases z
       ·have z2:=un.frzs b J _ z;obtain⟨e1,_⟩:=hok b _ z;obtain⟨e2,_⟩:=G b _ z2;rw[e]at e1;cases e1;exact e2
      ·exact absurd z Z6
    refine⟨U,⟨λb o e=>?_,λb o e=>?_⟩,os,bare⟩
    ·by_cases Z6:b=T
     ·subst Z6;rw[D]at e;cases e;exact .inr (.inl ⟨(V9.tab D).isCodeTable,U,#[],more,U,el⟩)
     ·exact .inl (kp b o Z6 e)
    ·by_cases Z6:b=T
     ·exact⟨_,by rw[Z6];exact el⟩
     ·exact⟨o,kp b o Z6 e⟩
 cases B:K.lookup a with
 |some o=>
  have e:=KX a o B;rw[N]at e;cases e;refine Y (λb=>if b=T then some (.tbl #[])else none) (.inr ⟨_,vs.toArray,_,B,U,U,U,by rw[MF,ed];exact hl,by simpa using rv⟩) (g_ U) (λb u z=>?_) (λb z=>?_) (.inl<|f_ et) λz=>absurd (f_ et) z
  ·by_cases I:b=T
   ·have Z:=(g_ I).symm.trans z;cases Z;subst I;exact D
   ·have Z:=(f_ I).symm.trans z;cases Z
  ·by_cases I:b=T
   ·exact .inr I
   ·exact absurd (f_ I) z
 |none=>
  refine Y (λb=>if b=a then some (.frz {cls:=.type "list",data:=.seq vs.toArray}<|.lst<|ns.map V.int)else if b=T then some (.tbl #[])else none) (.inl<|.inr ⟨{cls:=.type "list",data:=.seq vs.toArray},g_ U⟩) (by show(if T=a then _ else if T=T then _ else _)=_;rw[f_ et.symm,g_ rfl]) (λb u z=>?_) (λb z=>?_) (.inr ⟨_,_,g_ U⟩) λ_=>B
  ·by_cases I:b=a
   ·have Z:=(g_ I).symm.trans z;cases Z;subst I;exact⟨N,by rw[Me];exact hl,vs,_,rv,N⟩
   ·have Z:=(f_ I).symm.trans z;by_cases Zq:b=T
    ·have ea:=(g_ Zq).symm.trans Z;cases ea;subst Zq;exact D
    ·have ea:=(f_ Zq).symm.trans Z;cases ea
  ·by_cases I:b=a
   ·exact .inl I
   ·by_cases Zq:b=T
    ·exact .inr Zq
    ·exact absurd ((f_ I).trans<|f_ Zq) z
def B5{l:PySem.W.OpenLaw}{n k:Nat}{q:Vt}{Xw:Vx}{XP:(Str->Option Vq)->Heap->Prop}{YP:Vu->Heap->Prop}{d X:DefRec}{K:Params->ZF}{CX:y9}{sp:ZF->Vr->Sp}{x tx:Str}
  (B:l.most=some n) (ZT:n<=sizeLine) (ee:d.params.defaults=[]) (hr:P9 k callerA)
  (hY:∀(w:Vu)(h:Heap),YP w h->(K w.params).In h) (X_:∀w:Vu,PySem.W.noTabs (K w.params)=true) (ea:(recsOf q).find? (λe=>e.name==tx)=some X) (O:∀w:Vu,(PySem.W.tabIn (K w.params) tx).isSome=true)
  (F:∀(w:Vu)(r:Str->Option Vq)(D c T:Vr)(h:Heap),(K w.params).In h->h.Ns mainGlobals r->r d.name=some (.ref D)->PySem.W.tabIn (K w.params) tx=some (c,T)->
   ∃i:Vw,(∀(s:Vs)(u:Vq),BindsTo s i ⟨[u],[]⟩ [(x,u)]) /\
    ∀t:Heap,(K w.params).In t->t.Ns mainGlobals r->wv t r c T->P7 l.prog w (K w.params) r t CX k D i [x] (sp (K w.params) T))
  (Ww:∀(K:ZF)(T:Vr)(H:Hp)(a:Vr)(L:List Int),L.length<=n->P8 K H a (L.map V.int)->H T=some (.tbl #[])->sp K T [.ref a] H (λv _=>v=.bl true) λ_ _ _=>False)
  (Z:∀(H:Hp)(s:Vs)(e:Vq)(m:Vs),CX [] H s (λ_ _ _=>False) e m->False) :
  PySem.W.WalkO q Xw XP YP l.row.toRowW d [] (λf vs=>PySem.call f vs):=by
 refine Att.attach_call B ee λw s₀ I r mb D o pm cd doc a vs L G Y ho hd V9 et z Yv N7 M=>?_;have J:=hY w _ Y;obtain⟨⟨c,T⟩,j⟩:=Option.isSome_iff_exists.mp (O w);obtain⟨i,C,hF⟩:=F w r D c T _ J G.T.g et j;obtain⟨N,R⟩:=PySem.W.tab_of G.T J ea j;exact yZ J G.T.g G.T.b G.T.builtins G.T.nolimit M G.T.bmain N R (X_ w) z Yv (MP N7 ZT) hr hF C (λH hS hT=>Ww (K w.params) T H a L N7 hS hT) λH e m=>Z H I e m
end
inductive Sc(e:Vr)(C:Vr)(d:Option Vr)(T:Vr)(fl:Vq)(h:Heap):Prop
 |mk(vs:Array Vq)(a0:Vr)(oT:Obj)(t:Array Vq):h.get? e=some {cls:=.ref C,dict:=d,data:=.fields vs}->vs[0]?=some (.ref a0)->vs[1]?=some (.ref T)->T≠e->h.get? T=some oT->oT.data=.fields t->t[3]?=some fl->Sc e C d T fl h
structure Wr(fs:List Vr)(e T:Vr)(h h':Heap):Prop where
 keep:∀b o,h.get? b=some o->b∉fs->b≠e->b≠T->h'.get? b=some o
 slot:∀b o,h.get? b=some o->b∈fs->∃sl,h'.get? b=some {o with slots:=sl}
 old:∀o,h.get? T=some o->∃ts,o.data=.fields ts
 nf:T∉fs
inductive Li(n:Nat)(H:Hp)(L:Vr)(pn:List Vr)(e:Vr)(C:Vr)(d:Option Vr)(h:Heap):Prop
 |mk(vs:Array Vq)(a0:Vr):h.get? e=some {cls:=.ref C,dict:=d,data:=.fields vs}->vs[0]?=some (.ref a0)->(vs[1]?=some .none\/∃T fl,Sc e C d T fl h/\n<=T/\H T=none/\T∉pn/\(fl=.none\/fl=rawInt L))->Li n H L pn e C d h
def Sc.xo(x:Sc e C d T fl h):XO e C d true h:=by
 obtain⟨vs,q,_,_,t,o,_⟩:=x;exact⟨vs,q,t,o,λz=>nomatch z⟩
def pJ{o:Obj}{e:Array Vq}{f:Array Vq->Array Vq}(t:o.data=.fields e)(q:f e=e):o.mapFields f=o:=by
 obtain⟨c,d,dt,z⟩:=o;cases t;show Obj.mk c d (.fields<|f e) z=_;rw[q]
section
variable{M:Model}{A:Vv}{E:Vq->Vs->Prop}{s:Vs}{base:Heap}{t:Env}{outer:List Env}{L e C T:Vr}{d:Option Vr}{fl:Vq}{Q:Unit->Vs->Prop}
def fG(x:Sc e C d T fl s.heap)(h:∀i,(∀b o,s.heap.get? b=some o->b≠T->i.get? b=some o)->Sc e C d T (fr.elim .none λf=>rawInt f) i->Q () {s with heap:=i}):wpAny M A (setFlight (.ref e) fr) Q E s:=by
 obtain⟨vs,I,Z,p,O,Y,r,ne,z,m,G⟩:=x;have hsz:3<p.size:=(Array.getElem?_eq_some_iff.mp G).1;unfold setFlight;refine a_ (n_ O U r ?_);rw[g_<|show(Value.ref T != Value.none)=true from by simp];have k:∀b o,s.heap.get? b=some o->b≠T->(s.heap.update T (Obj.mapFields (·.setIfInBounds 3 (fr.elim Value.none λf=>rawInt f)))).get? b=some o:=λb o D J=>by
  rw[z_ _ _<|F_ J];exact D
 refine SZ z m hsz (h _ k ?_);have q:=TQ m (·.setIfInBounds 3 (fr.elim Value.none λf=>rawInt f));exact⟨vs,I,_,_,k _ _ O<|F_ ne,Y,r,ne,t_ _ z<|Tn q,q,by simp[hsz]⟩
def pL{vs:Array Vq}{a0:Vr}{head:Vq}{hadNext:Bool}(XH:A.frames=some (t::outer))(f:s.heap.FunFrames base (t::outer))(N:t.frame=some L)
  (v:s.heap.get? e=some {cls:=.ref C,dict:=d,data:=.fields vs}) (h0:vs[0]?=some (.ref a0)) (hsz:1<vs.size)
  (h:∀m,Wr (mL (t::outer)) e s.heap.objs.size s.heap m->Sc e C d s.heap.objs.size (rawInt L) m->Q () {s with heap:=m}) :
  wpAny M A (do let a <-frameOf t;let pl <-entryPlaceOf L hadNext;let b <-EntryCells.newEntry head a .none (rawInt L) .none pl;setField (.ref e) 1 b) Q E s:=by
 have J:e∉mL (t::outer):=λp=>by
  obtain⟨_,o,Z,ei⟩:=f.mem p;rw[v]at Z;injection Z with Z;subst Z;exact ei vs rfl
 refine a_ (wpAny_frameOf_fun XH f N λq O=>?_);refine a_ (wpAny_entryPlaceOf λpl K'=>?_);unfold EntryCells.newEntry newFields;refine a_ (r_ ?_<|K'.sizeOk5 _ _ _ _ _);generalize WK:([head,.ref L,.none,rawInt L,.none]++(if pl.isEmpty then List.replicate 6 Value.none else pl)).toArray=r;have j:r[3]?=some (rawInt L):=by rw[<-WK];simp
 have D:q.get? e=some {cls:=.ref C,dict:=d,data:=.fields vs}:=(O.2.1 e J).trans v;have Y:=Mh (h:=q) {cls:=.type "traceback",dict:=none,data:=.fields r} D;refine SZ Y U hsz ?_;have ea:q.objs.size=s.heap.objs.size:=O.1;have ee:q.objs.size≠e:=N5 (Mm D);have G:=t_ (Obj.mapFields (·.setIfInBounds 1 (Value.ref q.objs.size))) Y rfl;have I:=(z_ (q.push {cls:=.type "traceback",dict:=none,data:=.fields r}) (Obj.mapFields (·.setIfInBounds 1 (Value.ref q.objs.size)))<|F_ ee).trans (MB q U);have keep:∀b o,b≠e->q.get? b=some o->((q.push {cls:=.type "traceback",dict:=none,data:=.fields r}).update e (Obj.mapFields (·.setIfInBounds 1 (Value.ref q.objs.size)))).get? b=some o:=λb o Xr i=>by
  rw[z_ _ _<|F_ Xr];exact Mh _ i
 rw[ea]at G I keep ee⊢;refine h _ ⟨λb o i et Xr _=>keep b o Xr<|(O.2.1 b et).trans i,λb o i et=>?_,λo Z=>absurd (Mm Z)<|M7 _,λp=>?_⟩ ?_
 ·obtain⟨sl,R⟩:=O.2.2 b o i;exact⟨sl,keep b _ (λz=>J<|z▸et) R⟩
 ·obtain⟨_,o,Z,_⟩:=f.mem p;exact absurd (Mm Z) (M7 _)
 ·exact⟨_,a0,_,r,G,by rw[H_ zd];exact h0,by simp[hsz],ee,I,U,j⟩
def ke{n:Nat}{H:Hp}{pn:List Vr}(XH:A.frames=some (t::outer))(j:s.heap.FunFrames base (t::outer))(v:t.frame=some L)(x:Li n H L pn e C d s.heap)(B:n<=s.heap.objs.size)
  (hH:∀a,s.heap.objs.size<=a->H a=none) (X:∀a∈pn,a<s.heap.objs.size)
  (h:∀r T,Wr (mL (t::outer)) e T s.heap r->Sc e C d T (rawInt L) r->n<=T->H T=none->T∉pn->Q () {s with heap:=r}):wpAny M A (noteFrame (.ref e) t) Q E s:=by
 obtain⟨vs,a0,G,h0,N⟩:=x;have new:∀r,Wr (mL (t::outer)) e s.heap.objs.size s.heap r->Sc e C d s.heap.objs.size (rawInt L) r->Q () {s with heap:=r}:=λr w q=>h r _ w q B (hH _<|Ml _) λz=>absurd (X _ z) (M7 _);unfold noteFrame;simp only[v];rcases N with f|⟨T,fl,x,nT,fT,pT,ee|et⟩
 ·refine a_ (n_ G U f ?_);rw[f_ zd];exact pL XH j v G h0 (Array.getElem?_eq_some_iff.mp f).1 new
 ·subst ee;obtain⟨Yy,Z,oT,p,J,Z9,f,ne,I,m,Y⟩:=x;rw[G]at J;have ev:vs=Yy:=by injection J with e1;injection e1 with _ _ e2 _;injection e2
  subst ev;refine a_ (n_ G U f ?_);rw[g_<|show(Value.ref T != Value.none)=true from by simp];refine a_ (n_ I m Y ?_);rw[f_<|show¬((Value.none==rawInt L)=true)from by simp[rawInt]];have hsz:3<p.size:=(Array.getElem?_eq_some_iff.mp Y).1;refine a_ (SZ I m hsz ?_);have same:p.setIfInBounds 3 Value.none=p:=by
   apply Array.ext_getElem?;intro i;by_cases R:3=i
   ·subst R;rw[Y];simp[hsz]
   ·rw[H_ R]
  have all:∀b,(s.heap.update T (Obj.mapFields (·.setIfInBounds 3 Value.none))).get? b=s.heap.get? b:=λb=>by
   by_cases O:b=T
   ·rw[O];have:=t_ (Obj.mapFields (·.setIfInBounds 3 Value.none)) I (by rw[pJ m same];exact Tn m);rw[this,pJ m same,I]
   ·exact z_ _ _ (F_ O)
  refine pL (hadNext:=true) XH (j.of_keeps λb o O _=>⟨o,(all b).trans O,U⟩) v ((all e).trans G) h0 (Array.getElem?_eq_some_iff.mp f).1 λr w q=>?_;have hs:(s.heap.update T (Obj.mapFields (·.setIfInBounds 3 Value.none))).objs.size=s.heap.objs.size:=Heap.size_after_update _ _ _;dsimp only at w q;rw[hs]at w q;refine new r ⟨λb o O=>w.keep b o<|(all b).trans O,λb o O=>w.slot b o<|(all b).trans O,λo D=>w.old o<|(all _).trans D,w.nf⟩ q
 ·subst et;obtain⟨Yy,Z,oT,p,J,Z9,f,ne,I,m,Y⟩:=id x;refine a_ (n_ J U f ?_);rw[g_<|show(Value.ref T != Value.none)=true from by simp];refine a_ (n_ I m Y ?_);rw[g_<|show(rawInt L==rawInt L)=true from by simp];refine d_ ?_;have:=h s.heap T ⟨λb o O _ _ _=>O,λb o O _=>⟨o.slots,O⟩,λo D=>?_,λN=>?_⟩ x nT fT pT
  ·exact this
  ·rw[I]at D;cases D;exact⟨p,m⟩
  ·obtain⟨_,o,D,ea⟩:=j.mem N;rw[I]at D;cases D;exact ea p m
end
def Wr.then(w:Wr t e T h i)(k:∀b o,i.get? b=some o->b≠T->r.get? b=some o):Wr t e T h r:=
 ⟨λb o I O L D=>k b o (w.keep b o I O L D) D,λb o I O=>let⟨Y,q⟩:=w.slot b o I O;⟨Y,k b _ q λz=>w.nf<|z▸O⟩,w.old,w.nf⟩
def Wr.un(w:Wr t e T h h')(x:Sc e C d T fl h')(Y:H e=some (.ext φ)):Un t [T] H H h h':=by
 obtain⟨vs,J,oT,r,G,_,_,_,Z,_⟩:=x;refine⟨λb o I n D O=>w.keep b o I D (λz=>by rw[z,Y]at n;cases n) (by simpa using O),λb o I _ D _=>w.slot b o I D,λ_ _ _ n _=>n,λb o I O=>?_,λ_ _ q=>q,λ_ _ _ q=>q,λb i q=>⟨#[],by rw[q];simp⟩⟩;by_cases L:b=e
 ·exact⟨_,L▸G⟩
 ·by_cases D:b∈t
  ·obtain⟨sl,q⟩:=w.slot b o I D;exact⟨_,q⟩
  ·exact⟨o,w.keep b o I D L<|by simpa using O⟩
def Wr.hok(w:Wr i e T h t)(x:Sc e C d T fl t)(L:H e=some (.ext (XO e C d true)))(G:H T=none)(Z:∀b∈i,H b=none)(ok:Qt P wd H h):Qt P wd H t:=by
 intro a o D;have k:∀b Y,H b=some Y->b≠e->∀u,h.get? b=some u->t.get? b=some u:=λb Y O ne u q=>w.keep b u q (λz=>by rw[Z b z]at O;cases O) ne (au O G);by_cases I:a=e
 ·subst I;rw[L]at D;cases D;obtain⟨vs,a0,oT,r,J,_⟩:=id x;exact jw x.xo ⟨_,J⟩ XO.stay
 ·refine(ok a o D).stay (λb u O q=>?_) (λ_ q=>q) λ_ _ q=>q;rcases O with rfl|O
  ·exact k _ _ D I u q
  ·exact k _ _ O (λz=>by rw[z,L]at O;cases O) u q
def ku(P:Vt)(w:Vu):y9:=λouter H s E e t=>∃a q C d T,e=.ref a/\t.os=s.os/\AllBare t.gens/\Un (mL outer) [] H q s.heap t.heap/\Qt P w q t.heap/\q a=some (.ext (XO a C d true))/\Sc a C d T .none t.heap /\
 s.heap.objs.size<=T/\q T=none/\E e none q
inductive Fw(X:Cx)(H:Hp)(h:Heap)(a:Vr):Prop
 |mk(C d:_):H a=some (.ext (XO a C d true))->Li X.s₀.heap.objs.size H X.env.locals (X.pn.map (·.1)) a C d h->Fw X H h a
inductive jx(X:Cx)(ES:St->XK)(e:Vq)(s:Vs):Prop
 |mk(a t H:_):e=.ref a->P6 X [] t H s->Fw X H s.heap a->ES t e none H->jx X ES e s
def HQ(X:Cx)(q:St->XK):Prop:=∀e t,jx X q e t->X.xe e t
abbrev Cx.esc(X:Cx)(q:St->XK):Cx:=X.wish (jx X q)
section
variable{X:Cx}{pins:List (Vr×Obj)}{t:St}{H:Hp}{s:Vs}{ES:St->XK}{E:XK}
def eY:HQ (X.esc ES) ES:=λe r⟨a,t,H,o,I,⟨C,d,i,q⟩,z⟩=>⟨a,t,H,o,I.unwish,⟨C,d,i,q⟩,z⟩
def P6.pn_lt(I:P6 X pins t H s):∀a∈X.pn.map (·.1),a<s.heap.objs.size:=λa q=>by
 obtain⟨p,z,rfl⟩:=MQ.mp q;exact Mm (I.pin p<|MO _ z).1
def P6.frame1(I:P6 X pins t H s)(q:X.stack=X.env::X.outer):X.env.frame=some X.env.locals:=by
 rcases I.ok.stk with e|⟨_,e⟩
 ·rw[q]at e;exact absurd e (by intro z;have:=e_ List.length z;simp at this)
 ·exact e
def P6.wr(I:P6 X pins t H s)(W:Wr (mL X.stack) e T s.heap h')(x:Sc e C d T fl h')(D:H e=some (.ext (XO e C d true)))(Y:H T=none)(Z:X.s₀.heap.objs.size<=T)
  (r:∀p∈X.pn++pins,p.1≠T):P6 X pins t H {s with heap:=h'}:=by
 have:=I.call (g':=s.gens) (t':=s.toks) (d':=s.drawn) (ch:=[T]) (W.un x D) (W.hok x D Y I.stkFree I.hok) I.bare (λb G=>?_)
 ·exact this
 ·have L:b=T:=by simpa using G
  subst L;refine⟨.inr Z,λz=>?_,λy c J z=>?_,r⟩
  ·obtain⟨m,⟨o,j,ep,O,i,_⟩,_⟩:=I.loc;obtain⟨f,q⟩:=W.old o (by rw[z];exact O);rw[i]at q;cases q
  ·obtain⟨v,o,O,i⟩:=I.cell y c J;obtain⟨f,q⟩:=W.old o (by rw[<-z];exact O);rw[i]at q;cases q
def P6.nopins(I:P6 X pins t H s):P6 X [] t H s:=P6.unpinned (pins:=[]) (pl:=pins) I
def Jz(I:P6 X pins t H s)(h:ku X.prog X.w X.stack H s (ES t) e o):jx X ES e o:=by
 obtain⟨a,O,C,d,T,rfl,os,bare,un,hok,L,x,D,G,q⟩:=h;have J:P6 X pins t O o:=I.call' (ch:=[]) os un hok bare (λb z=>absurd z<|by simp);obtain⟨vs,Y,oT,m,i,Z,r,_⟩:=id x;exact⟨a,t,O,U,J.nopins,⟨C,d,L,vs,Y,i,Z,.inr ⟨T,.none,x,MP I.sz D,G,λz=>absurd (Ms (I.pn_lt T z) D)<|M7 _,.inl U⟩⟩,q⟩
def Lj(O:X.stack=X.env::X.outer):PassesOwn (model X.prog X.w) X.A X.env (jx X ES):=by
 intro e o ⟨a,t,H,L,I,⟨C,d,G,fl⟩,q⟩;subst L;have Z:=I.frame1 O;have XH:X.A.frames=some (X.env::X.outer):=by rw[I.ok.frames,O]
 have f:o.heap.FunFrames X.base (X.env::X.outer):=by rw[<-O];exact I.stack
 refine ke XH f Z fl I.sz (λb m=>I.hok.fresh m) I.pn_lt λh' T w x nT J pT=>?_;show wpAny _ _ _ _ _ _;obtain⟨vs,a0,oT,v,L,h0,r,_⟩:=id x;refine a_ (n_ (s:={o with heap:=h'}) L U r ?_);rw[f_<|show¬((Value.ref T==Value.none)=true)from by simp];rw[Z];refine fG (s:={o with heap:=h'}) x λWQ k Y=>?_;have W:=w.then k;rw[<-O]at W;obtain⟨Yy,D,et,ZG,Xq,Z9,ee,_⟩:=id Y;refine⟨a,t,H,U,I.wr (h':=WQ) W Y G J nT λp i z=>?_,⟨C,d,G,Yy,D,Xq,Z9,.inr ⟨T,_,Y,nT,J,pT,.inr U⟩⟩,q⟩;rw[MM]at i;exact pT (z▸Ti i)
end
def Rb.wishTo{X:Cx}{E:Vq->Vs->Prop}{st:List Stmt}{t:TS}(h:Rb (X.wish E) st t)(k:∀e i,E e i->X.xe e i):Rb X st t:=⟨λo s r H D I O=>
 j_ (h o s r H D (I.wish _) O) (λ_ _ q=>q.unwish) λe i z=>k e i z⟩
section
variable{P:Vt}{w:Vu}{K:ZF}{o:Str->Option Vq}{base:Heap}
def Hf{N:Vx}{t:Str}{r:Scope}{f:Vr}{O:Vq}{A:Vv}{outer:List Env}{s:Vs}{H:Hp}{E:XK}(e:Vq)(i:Vs)
  (h:jx (oM (ku P w) P w K o base N t r f O A outer s H E) (λ_=>E) e i):(oM (ku P w) P w K o base N t r f O A outer s H E).xe e i:=by
 obtain⟨a,R,G,v,I,⟨C,d,z,fl⟩,q⟩:=h;subst v;show wpAny (model P w) _ (leaving _<|.ref a) _ _ i;unfold leaving;refine a_ (ke (base:=base) I.ok.frames I.stack U fl I.sz (λb m=>I.hok.fresh m) I.pn_lt λh' T w x L D pT=>fG (s:={i with heap:=h'}) x λZ k Y=>?_);have W:=w.then k;have J:=I.wr (h':=Z) W Y z D L (λp j=>absurd j (by show p∉([]:List (Vr×Obj))++[];simp));exact⟨a,G,C,d,T,U,J.os,J.bare,J.base,J.hok,z,Y,L,D,q⟩
variable{sp:Sp}{i:Vw}{f:Vr}
def Qj.okX{x e:Str}{st:Stmt}{N r:Vx}{k:Nat}(F:Qj K x e st f i)(S:ax N r (aj st))(len:∀vs H Q E,sp vs H Q E->vs.length=r.length)
  (I:∀(Of:Vq)(A:Vv)(outer:List Env)(s:Vs)(H:Hp)(vs:VA)(Q:VK)(E:XK),P9 k (A.deeper<|envOfC e (aj st) s.heap.objs.size f Of)->sp vs H Q E->
   ∃t,Rb ((oM (ku P w) P w K o base N e (aj st) f Of A outer s H E).esc λ_=>E) (cq st) t/\t {nx:=λ_ z=>Q .non z,rt:=Q} (start N vs) H):P7 P w K o base (ku P w) (k+1) f i r sp:=by
 obtain⟨G,m,kV,doc,pm,Y,Of,ct,L,rfl,d,O⟩:=F.ex;refine zA d O S len λA outer s H vs Q E hr D=>?_;obtain⟨t,h,q⟩:=I Of A outer s H vs Q E hr D;exact⟨t,h.wishTo Hf,q⟩
def P7.calm{k:Nat}{t:Vx}(F:P7 P w K o base (ku P w) k f i t sp):P7 P w K o base ce k f i t (λvs H Q _=>sp vs H Q E0):=
 ⟨λvs H Q E q=>F.len vs H Q E0 q,λA outer s H args d vs Q E hr L D G Y=>u_ (F.run A outer s H args d vs Q E0 hr L D G Y) λr m O=>by
  cases r with
  |error e=>
   obtain⟨_,_,_,_,_,_,_,_,_,_,_,_,_,_,z⟩:=O;exact z.elim
  | ok I=>cases I<;>exact O⟩
end
section
variable{X:Cx}{k:Nat}{f C:Vr}{j:Vw}{v:Vx}{sp:Sp}{dvs:VA}{ds:List Vq}{ES:St->XK}{x m:Str}{p i G':Pos}{e o:Expr}{d:List Expr}{N:TE}{t:TA}
def rK(F:P7 X.prog X.w X.K X.mg X.base (ku X.prog X.w) k f j v sp)(hr:P9 k X.A)(D:Qk X.K j v ds)(B:Qb dvs ds)(Y:HQ X ES)
  (I:P6 X R M H s) (r:Qb vs us) (h:sp (vs++dvs) H Q (ES M)):wpAny (model X.prog X.w) X.A (call (.ref f) us) (EP X R M Q) X.xe s:=by
 have z:Qb (vs++dvs) (us++ds):=r.append B;have L:(us++ds).length=v.length:=by rw[<-z.length];exact F.len _ _ _ _ h
 refine E_ (u_ (F.run X.A X.stack s H ⟨us,[]⟩ (us++ds) (vs++dvs) Q (ES M) hr I.env0 (D s us I.kIn L) z h) λr G q=>?_);cases r with
 |error e=>exact Y e G (Jz I q)
 |ok O=>
  cases O with
  |ret u=>exact I.after q
  |next=>exact False.elim q
  |brk=>exact False.elim q
  |cont=>exact False.elim q
def ww(sp:Sp)(dvs:VA)(ES:St->XK)(t:TA):TE:=λr H Q=>t r H λvs q=>sp (vs++dvs) q Q (ES r)
def uj(F:P7 X.prog X.w X.K X.mg X.base (ku X.prog X.w) k f j v sp)(hr:P9 k X.A)(J:Gl X x)(B:X.mg x=some (.ref f))(Z:PySem.W.keepIn X.K (.ref f)=true)(Y:Qk X.K j v ds)(M:Qb dvs ds)(hx:HQ X ES)
  (L:PA X (e::d) t) (D:(x==("__debug__":Str))=false:=by decide) (G:starEach (e::d) X.env=(false,eval e X.env)::starEach d X.env:=by rfl) (O:(backTo i<|starEach d X.env).any (·.1)=false:=by rfl) :
  PE X (.Call (.Name x p) (e::d) [] i) (ww sp dvs ES t):=by
 refine⟨?_⟩;intro R s σ H Q I h;refine q_ (fJ I J B ?_ D);refine Np (h₀:=X.base) I.ok.mod.kin Z (bL (L i R s σ H _ I h) λus s1⟨vs,H1,z,r,q⟩=>⟨z.kIn,?_⟩) G O;exact rK F hr Y M hx z r q
inductive xQ(C:Vr)(m:Str)(sp:Sp)(dvs:VA)(ES:St->XK)(t:TA)(q:St)(Q:VK)(x:V)(r:Hp):Prop
 |mk(a R O:_):x=.ref a->r a=some (.ins C R O)->O.lookup m=none->(t q r λvs I=>sp (x::(vs++dvs)) I Q<|ES q)->xQ C m sp dvs ES t q Q x r
def Hg(C:Vr)(m:Str)(sp:Sp)(dvs:VA)(ES:St->XK)(N:TE)(t:TA):TE:=λr H Q=>N r H λx q=>xQ C m sp dvs ES t r Q x q
def kg(he:PE X o N)(c:R0 X.K C)(L:yi X.K C m f)(F:P7 X.prog X.w X.K X.mg X.base (ku X.prog X.w) k f j v sp)(hr:P9 k X.A)(hb:Qk X.K j v ds)(hd:Qb dvs ds)(hx:HQ X ES)(B:PA X (e::d) t)
  (Z:starEach (e::d) X.env=(false,eval e X.env)::starEach d X.env:=by rfl) (J:(backTo i<|starEach d X.env).any (·.1)=false:=by rfl)
  (ht:eval (.Call (.Attribute o m G') (e::d) [] i) X.env=(do
   let Y <-eval o X.env
   standAt G'.atName
   let(f,first) <-holding [Y] (getMethod Y m pl)
   callWith i f first (backTo i<|starEach (e::d) X.env) (backToKw i<|keywordEach [] X.env)):=by rfl) :
  PE X (.Call (.Attribute o m G') (e::d) [] i) (Hg C m sp dvs ES N t):=by
 refine⟨?_⟩;intro R s M H Q I h;refine A_ (pl:=pl) (bL (he R s M H _ I h) λu s1 z=>?_) ht;obtain⟨x,G,O,rx,a,dx,fs,ex,ea,l,q⟩:=z;subst ex;obtain rfl:u=Value.ref a:=rx;refine i7 O ea c L l ?_;refine Np (first:=[.ref a]) (h₀:=X.base) I.ok.mod.kin L.kp (bL (B i R s1 M G _ O q) λus s2⟨vs,H2,D,r,q2⟩=>⟨D.kIn,?_⟩) Z J;exact rK (us:=.ref a::us) (vs:=.ref a::vs) F hr hb hd hx D (.cons U r) q2
end
section
variable{e:Vt}{w:Vu}{A:Vv}{E:Vq->Vs->Prop}{h:Heap}{g:Array GenState}{dr:Drawn}{t:Nat}{os:OsState}
variable{o:Obj}{a:Vr}
def pM{vs:Array Vq}{Q:Bool->Vs->Prop}(q:h.get? a=some o)(i:o.data=.fields vs)(z:Q false ⟨h,g,dr,t,os⟩):wpAny (model e w) A (isType<|.ref a) Q E ⟨h,g,dr,t,os⟩:=by
 simp only[isType,loadHead];refine a_ (S0 q ?_);rw[i];exact d_ z
def fH{Q:Vq->Vs->Prop}(q:h.get? a=some o)(z:Q o.cls ⟨h,g,dr,t,os⟩):wpAny (model e w) A (typeOf<|.ref a) Q E ⟨h,g,dr,t,os⟩:=by
 simp only[typeOf];exact a_ (S0 q<|d_ z)
end
section
variable{X:Cx}{r:List (Vr×Obj)}{i:St}{H:Hp}{s:Vs}{ES:St->XK}{e:Expr}{f:TE}{m:Pos}
inductive xS(K:ZF)(ES:St->XK)(i:St)(x:V)(t:Hp):Prop
 |mk(a C d o nm bm:_):x=.ref a->Re t a C d false o->XC K C nm bm->ES i (.ref a) none (aB t a<|.ext (XO a C d true))->xS K ES i x t
def B6(K:ZF)(f:TE)(ES:St->XK):TS:=λ_ i H=>f i H λx q=>xS K ES i x q
def B7(B:PE X e f)(hx:HQ X ES)(M:X.calm=true):PS X (.Raise (some e) none m) (B6 X.K f ES):=by
 refine⟨λr s i H D I h=>?_⟩;show wpAny _ _ (do standAt m;raiseStmt X.env (some (do let v <-eval e X.env;standAt m;pure v)) none) _ _ s;refine a_ (o_ ?_);unfold raiseStmt;dsimp only;refine a_ (a_<|j_ (B r s i H _ I h) (λv O Y=>a_<|o_<|d_ ?_) λ_ _ x=>x);obtain⟨x,H1,G,rx,a,C,d,fs,nm,bm,ex,xa,c,q⟩:=Y;subst ex;obtain rfl:v=Value.ref a:=rx;obtain⟨vs,J,L,Z,p⟩:=xa.obj G;have R:(Value.ref C::bm).contains (.type "BaseException")=true:=c.tl.has C "BaseException" true zk;obtain⟨q0,N,bs,sn,sub,ab,col,dd,k0,k1,k2,k3,k5,lk⟩:=c.obj;have hC:=G.kIn _ _ lk;have hh:X.A.handled=none:=G.ok.hd M;have j:=G.write (o:=.ext (XO a C d true)) (x:=a) (e:=a) (t':=O.toks) (h':=O.heap) (by rw[xa.1];exact True.intro) (.inl U) (λb u _ z=>z) ⟨_,L⟩ (jw ⟨vs,J,L,Z,λz=>nomatch z⟩ ⟨_,L⟩ XO.stay);have B':X.xe (.ref a) O:=hx _ _ ⟨a,i,_,U,j.nopins,⟨C,d,aa,vs,J,L,Z,.inl<|p U⟩,q⟩;obtain⟨hp,g,dr,t,os⟩:=O;refine a_ (d_ ?_);dsimp only;refine a_ (p_ ?_);unfold excFromValue isExcClass;refine a_ (a_<|pM L U ?_);simp only[y_,Pi];refine d_ ?_;simp only[y_,Pi];unfold isInstance;refine a_ (a_<|fH L<|w_ hC ?_);rw[R];simp only[K_];refine d_ ?_;refine a_ (pM L U ?_);simp only[y_,Pi];unfold raisedInstance;refine a_ (a_<|fH L<|a_<|fH hC ?_);rw[g_<|by rfl];refine d_ ?_;unfold setFlight raiseNew;refine a_ (a_<|n_ L U (p U) ?_);rw[f_ zd];refine d_ (a_<|wpAny_handled ?_);rw[hh];first
  |exact wpAny_throw B'
  |exact a_ (d_<|wpAny_throw B')
end
section
variable{i:Vt}{w:Vu}{A:Vv}{E:Vq->Vs->Prop}{h:Heap}{g:Array GenState}{dr:Drawn}{t:Nat}{os:OsState}
variable{Q:Bool->Vs->Prop}
def wx{a:Vr}{o:Obj}{q:ClassData}(z:h.get? a=some o)(e:o.data=.cls q)(O:Q true ⟨h,g,dr,t,os⟩):wpAny (model i w) A (isType<|.ref a) Q E ⟨h,g,dr,t,os⟩:=by
 simp only[isType,loadHead];refine a_ (S0 z ?_);rw[e];exact d_ O
def B8{e C I:Vr}{oe:Obj}{nm q XE q':Str}{N o:Vr}{bs Y G Z:List Vq}{L O:Bool}{sn sn' sub sub' ab ab' col col' dd WT k0 k0' k1 k1' k2 k2' k3 k3' k5 k5' Wu newId'}{Q:Bool->Vs->Prop}(r:h.get? e=some oe)(D:oe.cls=.ref C)(hC:h.get? C=some (excClassObj nm q C N bs Y L sn sub ab col dd k0 k1 k2 k3 k5 Wu))
  (z:h.get? I=some (excClassObj XE q' I o G Z O sn' sub' ab' col' WT k0' k1' k2' k3' k5' newId')) (VQ:(Value.ref I::Z).contains (.type "BaseException")=true) (J:Q ((Value.ref C::Y).contains<|.ref I) ⟨h,g,dr,t,os⟩) :
  wpAny (model i w) A (excMatches (.ref e)<|.ref I) Q E ⟨h,g,dr,t,os⟩:=by
 unfold excMatches isInstance;refine a_ (a_<|fH z<|wpAny_of_eq (a:=false) (by rfl) ?_);simp only[y_,Pi];refine a_ (d_ ?_);simp only[forIn,ForIn.forIn,List.forIn'_cons,List.forIn'_nil,TU,List.forIn_nil];unfold isExcClass;refine a_ ?_;refine a_ ?_;refine a_ (a_<|wx z U ?_);simp only[K_];refine w_ z ?_;rw[VQ];simp only[Bool.not_true,y_,Pi];refine d_ (d_ ?_);refine a_ (fH r ?_);rw[D];refine a_ (a_<|a_<|w_ hC ?_);generalize (Value.ref C::Y).contains (.ref I)=b at J⊢;cases b with
 |true=>
  simp only[K_];exact d_ (d_<|d_ J)
 |false=>
  simp only[y_,Pi];exact d_ (d_<|d_ J)
end
abbrev Cx.alt(X:Cx)(A:Vv)(calm:Bool)(pn:List (Vr×Obj))(xe:Vq->Vs->Prop):Cx:={X with A:=A,calm:=calm,pn:=pn,xe:=xe}
abbrev Cx.bear(X:Cx)(pn:List (Vr×Obj)):Cx:=X.alt X.A X.calm pn X.xe
abbrev Cx.suite(X:Cx)(A:Vv)(pn:List (Vr×Obj)):Cx:=X.alt A false pn λ_ _=>False
section
variable{X:Cx}{t pins' pn:List (Vr×Obj)}{r:St}{H:Hp}{s:Vs}{A:Vv}{calm:Bool}{f:Vq->Vs->Prop}
def P6.alt(I:P6 X t r H s)(q:A.frames=some X.stack)(z:calm=true->A.handled=none)(O:∀p∈pn++pins',p∈X.pn++t):P6 (X.alt A calm pn f) pins' r H s:=
 ⟨⟨I.ok.mod,I.ok.kind,I.ok.glob,I.ok.blt,I.ok.above,I.ok.inj,I.ok.has,I.ok.cab,z,q,I.ok.stk,I.ok.exf,I.ok.bs,I.ok.bsz,I.ok.noex,I.ok.exfs,I.ok.funs,I.ok.frf⟩,I.os,I.bare,I.base,I.loc,I.cell,I.free,I.freeC,λp h=>I.pin p<|O p h,I.hok,I.len⟩
def P6.unalt(I:P6 (X.alt A calm pn f) pins' r H s)(ok:X.Ok)(q:∀p∈X.pn++t,p∈pn++pins'):P6 X t r H s:=
 ⟨ok,I.os,I.bare,I.base,I.loc,I.cell,I.free,I.freeC,λp h=>I.pin p<|q p h,I.hok,I.len⟩
def P6.unset(I:P6 X t r H s)(hN:X.N.Nodup)(Z:X.N[i]?=some n)(B:s.heap.Ns X.env.locals m)(M:∀(i:Nat)(x:Str)(v:V),X.N[i]?=some x->r[i]?=some (some v)->HG X.env.scope x->∃u,Qd v u/\HV X.env s.heap m x u)
  (WO:R.Ns X.env.locals λx=>if x=n then v else m x) (O:Heap.SameBut X.env.locals s.heap R):P6 X t (r.set i none) H {s with heap:=R,toks:=t'}:=by
 have D:i<r.length:=by rw[I.len];exact(Mc.mp Z).1
 have cne:=I.cne;obtain⟨oL,_,_,ee,_⟩:=id B;refine⟨I.ok,I.os,I.bare,⟨λb o e n G L=>?_,λb o e n G L=>?_,I.base.free,λb o e L=>?_,I.base.tups,I.base.frzs,I.base.tbls⟩,⟨_,WO,λj y v' e1 e2 C=>?_⟩,λy c e=>?_,I.free,I.freeC,λp hp=>?_,λb ob e=>?_,by simpa using I.len⟩
 ·exact(O.2 b<|ME<|Ms (Mm e) I.ok.above).trans (I.base.keep b o e n G L)
 ·obtain⟨sl,e1⟩:=I.base.slot b o e n G L;exact⟨sl,(O.2 b<|ME<|Ms (Mm e) I.ok.above).trans e1⟩
 ·obtain⟨o',e1⟩:=I.base.there b o e L;exact⟨o',(O.2 b<|ME<|Ms (Mm e) I.ok.above).trans e1⟩
 ·by_cases J:j=i
  ·subst J;rw[S2 D]at e2;cases e2
  ·rw[S9<|F_ J]at e2;obtain⟨u',r',q⟩:=M j y v' e1 e2 C;refine⟨u',r',?_⟩;rcases q with⟨k,e⟩|⟨k,c,e,z⟩
   ·refine .inl ⟨k,?_⟩;have:y≠n:=λe=>J (mM hN e1<|e▸Z);simp[this,e]
   ·exact .inr ⟨k,c,e,z.sameBut O<|cne y c e⟩
 ·obtain⟨w',z⟩:=I.cell y c e;exact⟨w',z.sameBut O<|cne y c e⟩
 ·obtain⟨e,n,ne,nf,d⟩:=I.pin p hp;exact⟨(O.2 p.1 ne).trans e,n,ne,nf,d⟩
 ·refine(I.hok b ob e).stay (λc w' Y q=>(O.2 c ?_).trans q) (λ_ q=>q) λ_ _ q=>q;rintro rfl;rcases Y with rfl|Y
  ·rw[I.free]at e;cases e
  ·rw[I.free]at Y;cases Y
end
section
variable{X:Cx}{t suite:List Stmt}{b₀:Stmt}{M:(St->XK)->TS}{j:TS}{n cn:Str}{cp L' B:Pos}{i:Nat}{C':Vr}{XE:Str}{Yf:List Vq}
def Qr.drop(D:Qr)(i:Nat):Qr:={nx:=λe H=>D.nx (e.set i none) H,rt:=D.rt,bk:=λe H=>D.bk (e.set i none) H,ct:=λe H=>D.ct (e.set i none) H}
def B9(K:ZF)(C':Vr)(i:Nat)(j:TS)(D:Qr):St->XK:=λr e _ H=>∃a C d o nm q,e=.ref a/\Re H a C d true o/\XC K C nm q/\(Value.ref C::q).contains (.ref C')=true/\j (D.drop i) (r.set i (some<|.ref a)) H
def Lk(K:ZF)(M:(St->XK)->TS)(C':Vr)(i:Nat)(j:TS):TS:=λD e H=>M (B9 K C' i j D) D e H
def Ek(x:Re H a C d true m)(ok:Qt P w H h)(y:∃vs:Array Vq,h.get? a=some {cls:=.ref C2,dict:=d2,data:=.fields vs}):C=C2/\d=d2:=by
 obtain⟨⟨vs,z,o,_⟩,_⟩:=(show Qe P w H h a (.ext (XO a C d true))from ok a _ x.1);obtain⟨q,e⟩:=y;rw[o]at e;injection e with r;injection r with h4 h5;injection h4 with h6;exact⟨h6,h5⟩
def Hh(P':X.stack=X.env::X.outer)(hb:∀(pn:List (Vr×Obj))(ES:St->XK),Rb ((X.bear pn).esc ES) t<|M ES)(hs:∀(A:Vv)(pn:List (Vr×Obj)),Rb (X.suite A pn) (b₀::suite) j)
  (hg:Gl X cn) (hm:X.mg cn=some (.ref C')) (c':XC X.K C' XE Yf) (hN:X.N.Nodup) (hi:X.N[i]?=some n) (hl:X.env.kindOf n=some .local) (V0:(cn==("__debug__":Str))=false:=by decide) :
  PS X (.Try t [.ExceptHandler (some<|.Name cn cp) (some n) (b₀::suite) L'] [] [] B) (Lk X.K M C' i j):=by
 refine⟨λpins s σ H D I h=>?_⟩;have ok:=I.ok;have I0:P6 (X.bear<|X.pn++pins) [] σ H s:=I.alt ok.frames ok.hd (λp G=>by rwa [MM]at G);have Ys:∀{A calm xe σ H s},P6 (X.alt A calm (X.pn++pins) xe) [] σ H s->P6 X pins σ H s:=λJ=>J.unalt ok (λp G=>by rwa [MM]);refine wpAny_Try_except (j_ ((hb (X.pn++pins)<|B9 X.K C' i j D) [] s σ H D (I0.wish _) h) (λf s1 h1=>?_) λe s1 h1=>?_)
 ·cases f with
  |next=>
   obtain⟨O,L,J,q⟩:=h1;exact d_ ⟨O,L,Ys J,q⟩
  |brk=>obtain⟨O,L,J,q⟩:=h1;exact⟨O,L,Ys J,q⟩
  |cont=>obtain⟨O,L,J,q⟩:=h1;exact⟨O,L,Ys J,q⟩
  |ret u=>obtain⟨v,O,L,J,r,q⟩:=h1;exact⟨v,O,L,Ys J,r,q⟩
 ·obtain⟨a,σ1,H1,ea,J,⟨C,d,He,fl⟩,a',ev,d',fs,nm,bm,e1,xa,c,hc,q⟩:=h1;subst ea;cases e1;have hf:X.env.frame=some X.env.locals:=I.frame1 P';have XH:X.A.frames=some (X.env::X.outer):=by rw[ok.frames,P']
  have es:s1.heap.FunFrames X.base (X.env::X.outer):=by rw[<-P'];exact J.stack
  refine ke XH es hf fl J.sz (λb hb=>J.hok.fresh hb) J.pn_lt λh2 T w x nT fT pT=>fG (s:={s1 with heap:=h2}) x λh3 k x3=>?_;have W:=w.then k;rw[<-P']at W;have ec:=Ek xa J.hok (by obtain⟨vs,a0,z,_⟩:=fl;exact⟨vs,z⟩);obtain⟨rfl,rfl⟩:=ec;have J3:P6 (X.bear<|X.pn++pins) [] σ1 H1 {s1 with heap:=h3}:=J.wr (h':=h3) W x3 He fT nT (λp G z=>pT<|by rw[MM]at G;exact z▸Ti G);obtain⟨q0,N,bs,sn,sub,ab,col,dd,k0,k1,k2,k3,k5,lk⟩:=c.obj;obtain⟨eH,N',ek,eL,ey,eg,ew,WT,ez,eT,eN,eS,ee,el⟩:=c'.obj;have hC:=J3.kIn _ _ lk;have et:=J3.kIn _ _ el;have J4:P6 (X.suite (X.A.mark<|some<|.ref a)<|X.pn++pins) [] σ1 H1 {s1 with heap:=h3}:=J3.alt (X:=X.bear (X.pn++pins)) ok.frames (λz=>nomatch z) (λp G=>G);refine wpAny_handleBy_cons (codeAny_handlers_test<|fJ (X:=X.suite (X.A.mark<|some<|.ref a) (X.pn++pins)) J4 hg hm ?_ V0) (by intro z;cases z);obtain⟨eF,eb,_,_,en,_⟩:=id x3;refine B8 en U hC et (c'.tl.has C' "BaseException" true zk) ?_;rw[hc];simp only[K_];refine codeAny_handlers_suite_as (fG (s:={s1 with heap:=h3}) x3 λh5 ee x5=>?_);have J5:P6 (X.suite (X.A.mark<|some<|.ref a)<|X.pn++pins) [] σ1 H1 {s1 with heap:=h5}:=by
   refine J4.wr (h':=h5) (e:=a) (T:=T) ⟨λb o hb _ _ hT=>ee b o hb hT,λb o hb ei=>⟨o.slots,ee b o hb λz=>W.nf<|z▸ei⟩,λo ho=>?_,W.nf⟩ x5 He fT nT (λp G z=>pT<|by rw[MM]at G;exact z▸Ti G);obtain⟨_,_,oT,ts,_,_,_,_,hT,hd,_⟩:=x3;rw[hT]at ho;cases ho;exact⟨ts,hd⟩
  refine jA (X:=X.suite (X.A.mark<|some<|.ref a) (X.pn++pins)) (v:=.ref a) J5 hN hi (.inl hl) U (λs6 J6=>?_) (.inr hl);refine j_ ((hs (X.A.mark<|some<|.ref a)<|X.pn++pins) [] s6 _ H1 (D.drop i) J6 q) (λf s7 h7=>?_) λ_ _ z=>False.elim z;have B':∀{O:St}{L:Hp}{R:Unit->Vs->Prop},P6 (X.suite (X.A.mark<|some<|.ref a)<|X.pn++pins) [] O L s7->(∀s8,P6 X pins (O.set i none) L s8->R () s8)->wpAny (model X.prog X.w) X.A (do bindName X.env n .none;unbindBehindTheSuite X.env n L') R X.xe s7:=λ{O L R}Y hR=>by
   obtain⟨m,hn,eh⟩:=Y.loc;refine wpAny_nameGoes_keeps hl hn (by rw[ok.kind];rfl) λh8 v er ed=>hR _ (Ys<|Y.unset (t':=s7.toks+1) hN hi hn eh er ed)
  cases f with
  |next=>obtain⟨O,L,Y,q7⟩:=h7;exact B' Y λs8 Z=>⟨_,L,Z,q7⟩
  |brk=>obtain⟨O,L,Y,q7⟩:=h7;exact B' Y λs8 Z=>⟨_,L,Z,q7⟩
  |cont=>obtain⟨O,L,Y,q7⟩:=h7;exact B' Y λs8 Z=>⟨_,L,Z,q7⟩
  |ret u=>obtain⟨v,O,L,Y,r,q7⟩:=h7;exact B' Y λs8 Z=>⟨v,_,L,Z,r,q7⟩
end
def trkL(H:Hp)(q:List (Vr×Obj)):Hp:=λb=>match q.lookup b with|some o=>some (iY b o)|none=>H b
def untL(H:Hp)(q:List (Vr×Obj)):Hp:=λb=>match q.lookup b with|some _=>none|none=>H b
def i0(H:Hp)(q:List (Vr×Obj)):Prop:=∀b o,q.lookup b=some o->H b=some (iY b o)
section
variable{H p i:Hp}{t:List (Vr×Obj)}{b:Vr}{o:Obj}{P:Vt}{w:Vu}{h r:Heap}{d:List Vr}
def mG(e:t.lookup b=some o):trkL H t b=some (iY b o):=by unfold trkL;rw[e]
def cj(e:t.lookup b=none):trkL H t b=H b:=by unfold trkL;rw[e]
def fk(e:t.lookup b=some o):untL H t b=none:=by unfold untL;rw[e]
def bV(e:t.lookup b=none):untL H t b=H b:=by unfold untL;rw[e]
def wy:i0 (trkL H t) t:=λ_ _ e=>mG e
variable{u:HO}
def lG(n:∀b o,t.lookup b=some o->H b=none)(e:H b=some u):t.lookup b=none:=by
 cases q:t.lookup b with
 |none=>rfl
 |some o=>rw[n b o q]at e;cases e
def y0(n:∀b o,t.lookup b=some o->H b=none):untL (trkL H t) t=H:=by
 funext b;cases e:t.lookup b with
 |none=>rw[bV e,cj e]
 |some o=>rw[fk e,n b o e]
def ck(n:∀b o,t.lookup b=some o->H b=none)(e:H b=some u):trkL H t b=some u:=by rw[cj<|lG n e];exact e
def Ca(f:i0 H t)(e:H b=some u)(ne:∀φ,u≠.ext φ):t.lookup b=none:=by
 cases q:t.lookup b with
 |none=>rfl
 |some o=>rw[f b o q]at e;exact absurd (MN e).symm (ne _)
def Qt.trkL(ok:Qt P w H h)(g:∀b o,t.lookup b=some o->h.get? b=some o)(n:∀b o,t.lookup b=some o->H b=none):Qt P w (trkL H t) h:=by
 intro a u e;cases q:t.lookup a with
 |some o=>
  rw[mG q]at e;cases e;exact rG (g a o q)
 |none=>
  rw[cj q]at e;exact(ok a u e).stay (λ_ _ _ z=>z) (λb z=>ck n z) λb m z=>ck n z
def Qt.untL(ok:Qt P w H h)(f:i0 H t):Qt P w (untL H t) h:=by
 intro a u e;cases q:t.lookup a with
 |some o=>rw[fk q]at e;cases e
 |none=>
  rw[bV q]at e;exact(ok a u e).stay (λ_ _ _ z=>z) (λb z=>by rw[bV (Ca f z λφ=>by nofun)];exact z) λb m z=>by rw[bV (Ca f z λφ=>by nofun)];exact z
def gO(ok:Qt P w H h)(e:H b=some (iY b o)):h.get? b=some o:=(show Qe P w H h b (iY b o)from ok b _ e).1
def Un.trk(u:Un d [] (trkL H t) i h r)(ok:Qt P w i r)(f:i0 i t)(g:∀b o,t.lookup b=some o->h.get? b=some o)(n:∀b o,t.lookup b=some o->H b=none):Un d [] H (untL i t) h r where
 keep:=λb o e z D O=>by
  cases q:t.lookup b with
  |some I=>
   rw[g b I q]at e;cases e;exact gO ok (f b _ q)
  |none=>exact u.keep b o e (by rw[cj q];exact z) D O
 slot:=λb o e z D O=>by
  cases q:t.lookup b with
  |some I=>
   rw[g b I q]at e;cases e;exact⟨_,gO ok<|f b _ q⟩
  |none=>exact u.slot b o e (by rw[cj q];exact z) D O
 free:=λb o e z O=>by
  cases q:t.lookup b with
  |some I=>exact fk q
  |none=>rw[bV q];exact u.free b o e (by rw[cj q];exact z) O
 there:=u.there
 tups:=λb j e=>by rw[bV<|lG n e];exact u.tups b j (ck n e)
 frzs:=λb o x e=>by rw[bV<|lG n e];exact u.frzs b o x (ck n e)
 tbls:=λb v e=>by
  obtain⟨m,z⟩:=u.tbls b v (ck n e);exact⟨m,by rw[bV<|lG n e];exact z⟩
def Un.unt(u:Un d [] (untL H t) i h r)(f:i0 H t):Un d [] H (trkL i t) h r:=by
 have I:∀{b:Vr},H b=none->t.lookup b=none:=λ{b}z=>by
  cases q:t.lookup b with
  |none=>rfl
  |some o=>rw[f b o q]at z;cases z
 refine⟨λb o e z D O=>u.keep b o e (by rw[bV<|I z];exact z) D O,λb o e z D O=>u.slot b o e (by rw[bV<|I z];exact z) D O,λb o e z O=>by rw[cj<|I z];exact u.free b o e (by rw[bV<|I z];exact z) O,u.there,λb j e=>?_,λb o x e=>?_,λb v e=>?_⟩
 ·have q:=Ca f e λφ=>by nofun
  rw[cj q];exact u.tups b j (by rw[bV q];exact e)
 ·have q:=Ca f e λφ=>by nofun
  rw[cj q];exact u.frzs b o x (by rw[bV q];exact e)
 ·have q:=Ca f e λφ=>by nofun
  obtain⟨m,z⟩:=u.tbls b v (by rw[bV q];exact e);exact⟨m,by rw[cj q];exact z⟩
def Qt.retrk(z:Qt P w i r)(u:Un d [] (L2.untL H t) i h r)(ok:Qt P w H h)(f:i0 H t)(O:∀b o,t.lookup b=some o->b∉d):Qt P w (L2.trkL i t) r:=
 z.trkL (λb o q=>u.keep b o (gO ok<|f b o q) (fk q) (O b o q)<|by simp) λb o q=>u.free b o (gO ok<|f b o q) (fk q) (by simp)
end
structure iN(X:Cx)(σ:St)(cs:List (Vr×Obj)):Prop where
 inj:∀x y d,X.env.cells.lookup x=some d->X.env.cells.lookup y=some d->x=y
 at_:∀x d,X.env.cells.lookup x=some d->∃o v,cs.lookup d=some o/\o.data=.cell v/\∀(i:Nat)(val:V),X.N[i]?=some x->σ[i]?=some (some val)->(X.env.kindOf x=some .cell\/X.env.kindOf x=some .free)->∃u,v=some u/\Qd val u
section
variable{d:Vr}{h:Heap}
def xU:∀{l:List (Str×Vr)},(∃x,(x,d)∈l)->∀o,h.get? d=some o->(l.filterMap λp=>(h.get? p.2).map λo=>(p.2,o)).lookup d=some o
 |[],⟨x,z⟩,_,_=>absurd z (by simp)
 |(y,c)::r,⟨x,z⟩,o,e=>by
  by_cases O:d=c
  ·subst O;rw[Nt,e];simp
  ·have L:(x,d)∈r:=by
    rcases Mo.mp z with q|q
    ·injection q with _ t;exact absurd t O
    ·exact q
   have I:=xU (l:=r) ⟨x,L⟩ o e;rw[Nt];cases q:h.get? c with
   |none=>exact I
   |some D=>
    show List.lookup d ((c,D)::_)=_;rw[Ni,show(d==c)=false by simp[O]];exact I
def Cb [BEq α] [LawfulBEq α]:∀{l:List (α×β)},l.lookup a=some b->(a,b)∈l
 |[],e=>by cases e
 |(c,d)::r,e=>by
  rw[Ni]at e;split at e
  ·rename_i q;have:=eq_of_beq q;subst this;cases e;exact Mf
  ·exact Mn _ (Cb e)
def El{o:Obj}{l:List (Str×Vr)}(e:(l.filterMap λp=>(h.get? p.2).map λo=>(p.2,o)).lookup d=some o):h.get? d=some o/\∃x,(x,d)∈l:=by
 have O:=Cb e;obtain⟨p,I,q⟩:=List.mem_filterMap.mp O;cases z:h.get? p.2 with
 |none=>rw[z]at q;cases q
 |some D=>
  rw[z]at q;injection q with q;injection q with t i;subst t i;exact⟨z,p.1,I⟩
section
variable{X:Cx}{j:List (Vr×Obj)}{N:St}{H:Hp}{s:Vs}{k:Nat}{f:Vr}{B:Vw}{M:Vx}{sp:Sp}{ds:List Vq}{dvs:VA}{x:Str}{p R:Pos}{e:Expr}{C:List Expr}{t:TA}
def Em{Q:VK}{us:List Vq}{vs:VA}(F:P7 X.prog X.w X.K X.mg X.base ce k f B M sp)(hr:P9 k X.A)(hb:Qk X.K B M [])(Z0:∀x,X.fn x=true)(U':∀p∈X.env.cells,X.env.cells.lookup p.1=some p.2)
  (I:P6 X j N H s) (r:Qb vs us) (h:∀O,iN X N O->(∀b o,O.lookup b=some o->H b=none)->sp vs (trkL H O) (λv J=>i0 J O/\Q v (untL J O)) E0):wpAny (model X.prog X.w) X.A (call (.ref f) us) (EP X j N Q) X.xe s:=by
 let O:=X.env.cells.filterMap λp=>(s.heap.get? p.2).map λo=>(p.2,o)
 have cell:∀b o,O.lookup b=some o->s.heap.get? b=some o/\∃x,X.env.cells.lookup x=some b:=λb o q=>by
  obtain⟨h1,x,D⟩:=El q;exact⟨h1,x,U' _ D⟩
 have n:∀b o,O.lookup b=some o->H b=none:=λb o q=>let⟨_,x,D⟩:=cell b o q;I.freeC x b D;have hC:iN X N O:=by
  refine⟨I.ok.inj,λx d D=>?_⟩;obtain⟨v,o,ho,hd⟩:=I.cell x d D;refine⟨o,v,xU ⟨x,NC D⟩ o ho,hd,λi val hi hv hk=>?_⟩;obtain⟨m,hn,hl⟩:=I.loc;obtain⟨u,ru,lk⟩:=hl i x val hi hv (hk.elim (λz=>.inr<|.inl z) λz=>.inr<|.inr z);rcases lk with⟨z,_⟩|⟨_,c,hc,G,Xp,Z⟩
  ·rcases hk with y|y<;>(rw[y]at z;cases z)
  ·rw[D]at hc;cases hc;rw[ho]at Xp;cases Xp;rw[hd]at Z;injection Z with Z;exact⟨u,Z,ru⟩
 have hq:=h O hC n;have hl:us.length=M.length:=by rw[<-r.length];exact F.len _ _ _ _ hq
 have E:=I.env0;have big:∀b o,O.lookup b=some o->X.s₀.heap.objs.size<=b:=λb o q=>let⟨_,x,D⟩:=cell b o q;I.ok.cab x b (Z0 x) D;have E':RH X.prog X.w X.K X.mg X.base X.A X.stack s (trkL H O):=by
  refine⟨E.frames,E.mod,λb o z=>⟨(E.bs b o z).1,?_⟩,E.bsz,E.funs,λb L=>?_,E.hok.trkL (λb o q=>(cell b o q).1) n,E.bare⟩
  ·cases q:O.lookup b with
   |none=>rw[cj q];exact(E.bs b o z).2
   |some G=>exact absurd (Ms (Mm z)<|MP I.ok.bsz<|big b G q) (M7 _)
  ·cases q:O.lookup b with
   |none=>rw[cj q];exact E.frf b L
   |some G=>
    obtain⟨_,x,D⟩:=cell b G q;rcases Mo.mp (I.stkSub b L)with z|z
    ·exact absurd z (I.cne x b D)
    ·obtain⟨_,ee,ho,_⟩:=I.ok.funs.mem z;exact absurd (Ms (Mm ho)<|big b G q) (M7 _)
 have L:=hb s us I.kIn (by rw[MM];exact hl);rw[MM]at L;refine E_ (u_ (F.run X.A X.stack s (trkL H O) ⟨us,[]⟩ us vs _ E0 hr E' L r hq) λr s' Y=>?_);cases r with
 |error e=>exact False.elim Y
 |ok fl=>
  cases fl with
  |ret u=>
   obtain⟨v,J,os,bare,un,hok,rv,fx,q⟩:=Y;exact I.after ⟨v,untL J O,os,bare,un.trk hok fx (λb o q=>(cell b o q).1) n,hok.untL fx,rv,q⟩
  |next=>exact False.elim Y
  |brk=>exact False.elim Y
  |cont=>exact False.elim Y
def Hi(X:Cx)(sp:Sp)(t:TA):TE:=λN H Q=>t N H λvs z=>∀q,iN X N q->(∀b o,q.lookup b=some o->z b=none)->sp vs (trkL z q) (λv O=>i0 O q/\Q v (untL O q)) E0
def uk(F:P7 X.prog X.w X.K X.mg X.base ce k f B M sp)(hr:P9 k X.A)(o:Gl X x)(m:X.mg x=some (.ref f))(i:PySem.W.keepIn X.K (.ref f)=true)(J:Qk X.K B M [])(Y:∀x,X.fn x=true)(D:∀p∈X.env.cells,X.env.cells.lookup p.1=some p.2)
  (G:PA X (e::C) t) (L:(x==("__debug__":Str))=false:=by decide) (Z:starEach (e::C) X.env=(false,eval e X.env)::starEach C X.env:=by rfl) (O:(backTo R<|starEach C X.env).any (·.1)=false:=by rfl) :
  PE X (.Call (.Name x p) (e::C) [] R) (Hi X sp t):=by
 refine⟨?_⟩;intro j s N H Q I h;refine q_ (fJ I o m ?_ L);refine Np (h₀:=X.base) I.ok.mod.kin i (bL (G R j s N H _ I h) λus s1⟨vs,v,z,r,q⟩=>⟨z.kIn,?_⟩) Z O;exact Em F hr J Y D z r q
end
end
def Hj(z:X.stack=X.env::X.outer)(XT:X.pn=[])(D:X.ex=[])(e:Vq)(t:Vs)(h:jx X (λ_=>E) e t):
  wpAny (model X.prog X.w) X.A (leaving X.env e) (λ_ O=>ku X.prog X.w X.outer X.H₀ X.s₀ E e O) (λi O=>ku X.prog X.w X.outer X.H₀ X.s₀ E i O) t:=by
 obtain⟨a,j,o,m,I,⟨C,d,L,fl⟩,q⟩:=h;subst m;have XH:X.A.frames=some (X.env::X.outer):=by rw[I.ok.frames,z]
 have f:t.heap.FunFrames X.base (X.env::X.outer):=by rw[<-z];exact I.stack
 unfold leaving;refine a_ (ke XH f (I.frame1 z) fl I.sz (λb r=>I.hok.fresh r) I.pn_lt λh' T w x G Y pT=>fG (s:={t with heap:=h'}) x λWQ k Z=>?_);have W:=w.then k;rw[<-z]at W;have J:=I.wr (h':=WQ) W Z L Y G (λp v=>absurd v<|by rw[XT];simp);have B:=J.base;rw[D]at B;exact⟨a,o,C,d,T,U,J.os,J.bare,B,J.hok,L,Z,G,Y,q⟩
def oB(e:Scope)(t fr:Vx):Bool:=e.kind==.function && !e.isCoroutine && !e.isGenerator&&decide (t.length<=1)&&t.all (λx=>e.names.lookup x==some .local)&&e.names.all (λp=>p.2 != .cell)&&fr.all (λx=>e.names.lookup x==some .free)
def ul(h:oB e t fr=true):e.kind=.function/\e.isCoroutine=false/\e.isGenerator=false/\t.length<=1/\(∀x∈t,e.names.lookup x=some .local)/\(∀p∈e.names,p.2≠.cell)/\∀x∈fr,e.names.lookup x=some .free:=by
 unfold oB at h;simp only[Nh,MT,S5,bne_iff_ne,ne_eq,Tu,G_]at h;obtain⟨⟨⟨⟨⟨⟨o,i⟩,q⟩,z⟩,O⟩,I⟩,D⟩:=h;exact⟨o,i,q,z,O,I,D⟩
structure um(sc:Scope)(fr:Vx)(cl:List (Str×Vr))(cs:List (Vr×Obj))(vC:VA):Prop where
 inj:∀x y d,cl.lookup x=some d->cl.lookup y=some d->x=y
 has:∀x∈sc.names,x.2=.free->∃d,cl.lookup x.1=some d
 cel:∀x d,cl.lookup x=some d->∃o v,cs.lookup d=some o/\o.data=.cell v
 val:∀(j:Nat)(x:Str),fr[j]?=some x->∃d o u v,cl.lookup x=some d/\cs.lookup d=some o/\o.data=.cell (some u)/\vC[j]?=some v/\Qd v u
 len:vC.length=fr.length
def y2(L:xP X H f e params t m)(z:iN X σ R)(hok:kc X.N X.env.scope m ps fr ix=true)
  (hv:∀(j i:Nat),ix[j]?=some i->∃v,vC[j]?=some v/\σ[i]?=some (some v)) (B:vC.length=fr.length) :
  ∃c pm ctv r,H f=some (iY f<|PySem.W.kla_obj "<lambda>" e params t m r pm c ctv)/\H c=some (oz c e)/\um m fr r R vC:=by
 obtain⟨c,pm,ctv,r,J,G,e2,D⟩:=L;obtain⟨k1,k2,k3,k4,k5,k6,k7,k8,k9⟩:=oA hok;refine⟨c,pm,ctv,r,J,G,λx y d a b=>z.inj x y d (e2 x d a)<|e2 y d b,λx hx h=>D x hx h,λx d q=>?_,λj x a=>?_,B⟩
 ·obtain⟨o,v,O,I,_⟩:=z.at_ x d (e2 x d q);exact⟨o,v,O,I⟩
 ·obtain⟨i,Z,n1,Y⟩:=k9 j x a;obtain⟨d,p⟩:=D (x,.free) (bZ Y) rfl;obtain⟨o,v,O,I,q3⟩:=z.at_ x d (e2 x d p);obtain⟨val,C,M⟩:=hv j i Z;obtain⟨u,rfl,ru⟩:=q3 i val n1 M (k8 (x,.free) (bZ Y) U);exact⟨d,o,u,val,p,O,I,C,ru⟩
def Eo(P:Vt)(w:Vu)(K:ZF)(mg:Str->Option Vq)(base:Heap)(N:Vx)(t:Str)(i:Scope)(f c:Vr)(o:List (Str×Vr))(A:Vv)(outer:List Env)(s:Vs)(H:Hp)(E:XK):Cx where
 prog:=P
 w:=w
 K:=K
 mg:=mg
 base:=base
 A:=A.deeper (rJ t i s.heap.objs.size f c o)
 N:=N
 s₀:=s
 H₀:=H
 env:=rJ t i s.heap.objs.size f c o
 outer:=outer
 stack:=rJ t i s.heap.objs.size f c o::outer
 ex:=[]
 calm:=true
 fn:=λ_=>false
 pn:=[]
 xe:=λe r=>wpAny (model P w) (A.deeper<|rJ t i s.heap.objs.size f c o) (leaving (rJ t i s.heap.objs.size f c o) e) (λ_ q=>ku P w outer H s E e q) (λz q=>ku P w outer H s E z q) r
def JB(f c:Vr)(t:Str)(params:Arguments)(i:Expr)(p:Scope)(r:List (Str×Vr))(pm ctv:Vq)(m:Vx)(q:List (Vr×Obj))(vC:VA)(j:XK->TE):Sp:=λvs H Q E=>
 vs.length=m.length/\H f=some (iY f<|PySem.W.kla_obj "<lambda>" t params i p r pm c ctv)/\H c=some (oz c t)/\i0 H q/\j (λe d z=>(∀b o,q.lookup b=some o->z b=none)->E e d (trkL z q)) (vs.map some++vC.map some) (untL H q) λv z=>(∀b o,q.lookup b=some o->z b=none)->Q v (trkL z q)
def Hk{P:Vt}{w:Vu}{K:ZF}{mg:Str->Option Vq}{i:Heap}{k:Nat}{f c:Vr}{qual:Str}{params:Arguments}{t:Expr}{m:Scope}{R:List (Str×Vr)}{pm ctv:Vq}{N fr:Vx}{O:List (Vr×Obj)}{vC:VA}{te:XK->TE}
  (hok:oB m N fr=true) (LC:um m fr R O vC)
  (hb:∀(A:Vv)(outer:List Env)(s:Vs)(H:Hp)(E:XK),P9 k (A.deeper<|rJ qual m s.heap.objs.size f c R)->PE ((Eo P w K mg i (N++fr) qual m f c R A outer s H E).esc λ_=>E) t (te E)) :
  P7 P w K mg i (ku P w) (k+1) f (PySem.W.kla_fn "<lambda>" qual params t m R pm (.ref c) ctv) N (JB f c qual params t m R pm ctv N O vC te):=by
 refine⟨λvs H Q E h=>h.1,λA outer s H args us vs Q E hr I ee rv Ww=>?_⟩;obtain⟨M,hf,hc,fx,h⟩:=Ww;obtain⟨k1,k2,k3,k5,k6,k7,k8⟩:=ul hok;have of:s.heap.get? f=some (PySem.W.kla_obj "<lambda>" qual params t m R pm c ctv):=gO I.hok hf;have oc:s.heap.CodeRec (.ref c) qual:=(I.hok c _ hc).1;have ea:s.heap.NoLimit:=I.mod.nolimit.keeps λb o e=>(I.bs b o e).1;have Yr:∀b o,O.lookup b=some o->s.heap.get? b=some o:=λb o q=>gO I.hok (fx b o q);have en:us.length=N.length:=by rw[<-rv.length];exact M
 refine PySem.W.kla_callFunE hr.depth of U k2 k3 U oc (ee _ _ _ _ ?_);refine Tq k7 (λy hy=>k6 y.1 (N0 hy).1) (λG Zj Zi=>⟨ea.fresh _ Zi,?_⟩) k1;show codeAny _ _ (.expr t<|rJ qual m s.heap.objs.size f c R) _ _;have old:∀b o,s.heap.get? b=some o->G.get? b=some o:=λb o e=>Zi.extBut b o (ME<|Mm e) (Mh _ e);have L:Qt P w (untL H O) s.heap:=I.hok.untL fx;have HL:untL H O s.heap.objs.size=none:=L.fresh (Ml _);have nf:∀b o,O.lookup b=some o->b∉mL outer:=λb o q z=>by
  have:=I.frf b z;rw[fx b o q]at this;cases this
 have WP:∀b,H b=none->untL H O b=none:=λb z=>by
  cases q:O.lookup b with
  |none=>rw[bV q];exact z
  |some o=>exact fk q
 let E':XK:=λe d D=>(∀b o,O.lookup b=some o->D b=none)->E e d (trkL D O)
 let Y:=Eo P w K mg i (N++fr) qual m f c R A outer s (untL H O) E'
 have Ze:∀b:Vr,b∉Y.ex:=λb z=>absurd (show b∈([]:List Vr)from z) (by simp);have I4:P6 Y [] (vs.map some++vC.map some) (untL H O) {s with heap:=G,toks:=s.toks+(N.zip us).length}:=by
  refine⟨⟨I.mod,k1,U,U,Ml _,λx y d a b=>LC.inj x y d a b,λx hx=>?_,λx d z=>(by cases z),λ_=>hr.hd,Around.frames_deeper I.frames,.inr ⟨U,U⟩,λb z=>absurd z<|Ze b,λb o z=>⟨(I.bs b o z).1,WP b (I.bs b o z).2⟩,I.bsz,λb _ _=>Ze b,λb z=>absurd z<|Ze b,I.funs,λb z=>WP b<|I.frf b z⟩,
   rfl,I.bare,Un.kept old,⟨_,Zj,λj x v a b d=>?_⟩,λx d q=>?_,HL,λx d q=>?_,λp hp=>(by cases hp),L.kept old,?_⟩
  ·have VZ:m.names.lookup x=some .cell\/m.names.lookup x=some .free:=hx;rcases VZ with z|z
   ·exact absurd U (k7 _<|bZ z)
   ·exact LC.has (x,.free) (bZ z) rfl
  ·have a':(N++fr)[j]?=some x:=a;have b':(vs.map some++vC.map some)[j]?=some (some v):=b;by_cases hj:j<N.length
   ·rw[Nk hj]at a';rw[Nk (by rw[Me];lia),Mt]at b';have et:j=0:=by lia
    subst et;obtain⟨u',r0,ei⟩:=B0 k5 M rv a' (by simpa using b');exact⟨u',r0,.inl ⟨k6 x<|Mr a',ei⟩⟩
   ·rw[Nj zo]at a';rw[Nj (by rw[Me];lia),Me,M,Mt]at b';obtain⟨d0,o,u,v',c1,c2,c3,c4,c5⟩:=LC.val _ x a';rw[c4]at b';have ev:v'=v:=by simpa using b'
    subst ev;exact⟨u,c5,.inr ⟨.inr<|k8 x<|Mr a',d0,c1,o,old _ _<|Yr _ _ c2,c3⟩⟩
  ·obtain⟨o,v,q1,q2⟩:=LC.cel x d q;exact⟨v,o,old _ _<|Yr _ _ q1,q2⟩
  ·obtain⟨o,v,q1,q2⟩:=LC.cel x d q;exact fk q1
  ·show(vs.map some++vC.map some).length=(N++fr).length;rw[Md,Md,Me,Me,M,LC.len]
 refine PySem.W.kla_codeExpr (j_ ((hb A outer s (untL H O) E'<|hr.deeper _) [] _ _ (untL H O) (λv D=>(∀b o,O.lookup b=some o->D b=none)->Q v (trkL D O)) (I4.wish _) h) (λu s' he=>?_) λe s' he=>?_)
 ·obtain⟨v,D,J,r,q⟩:=he;have B:=J.base;exact⟨v,trkL D O,J.os,J.bare,Un.unt J.base fx,Qt.retrk J.hok J.base I.hok fx nf,r,q λb o z=>Un.free B b o (Yr b o z) (fk z)<|Ze b⟩
 ·have conv:∀e Z,ku P w outer (untL H O) s E' e Z->ku P w outer H s E e Z:=λe Z⟨a,D,C,d,T,h1,os,bare,un,X5,He,x,nT,fT,q⟩=>by
   have nn:∀b o,O.lookup b=some o->D b=none:=λb o z=>un.free b o (Yr b o z) (fk z) (by simp);refine⟨a,trkL D O,C,d,T,h1,os,bare,un.unt fx,Qt.retrk X5 un I.hok fx nf,ck nn He,x,nT,?_,q nn⟩;cases z:O.lookup T with
   |none=>rw[cj z];exact fT
   |some o=>exact absurd (Ms (Mm<|Yr T o z) nT) (M7 _)
  exact j_ (Hj (X:=Y) U U U e s' he) (λ_ Z z=>conv e Z z) λe' Z z=>conv e' Z z
section
def Ep(P:Vt)(w:Vu)(K:ZF)(m:Str->Option Vq)(e:Heap)(A:Vv)(i:Nat)(O:St->XK)(t:TA):TE:=λr H Q=>∃f,r[i]?=some (some<|.ref f)/\t r H λvs z=>∃o q k d sp,z f=some (iY f o)/\o.data=.func q/\P7 P w K m e (ku P w) k f q d sp/\P9 k A/\Qk K q d []/\sp vs z Q (O r)
def Cd(h:Heap)(q:∃o z,h.get? f=some o/\o.data=.func z):∃k,(k=Keeper.frame\/k=Keeper.machine\/k=Keeper.boundFrame)/\PySem.W.Looks M h (keeperOf<|.ref f) k:=by
 obtain⟨o,z,O,e⟩:=q;obtain⟨c,d,dt,I⟩:=o;cases e;exact⟨.frame,.inl U,(PySem.W.Looks.ld (part:=none) O).andThen .now⟩
def y3(P:Vt)(w:Vu)(K:ZF)(C:Str->Option Vq)(d:Heap)(ee:P9 k0 A0)(hN:X.N[i]?=some x)(hv:HG X.env.scope x)(hx:HQ X ES)(ha:PA X (e::R) t)(Z:(x==("__debug__":Str))=false:=by decide)(V9:(x==("__classdict__":Str))=false:=by decide)
  (he:starEach (e::R) X.env=(false,eval e X.env)::starEach R X.env:=by rfl) (J:(backTo j<|starEach R X.env).any (·.1)=false:=by rfl) (e1:X.prog=P:=by rfl) (e2:X.w=w:=by rfl) (B:X.K=K:=by rfl) (e4:X.mg=C:=by rfl) (e5:X.base=d:=by rfl) (e6:X.A=A0:=by rfl):PE X (.Call (.Name x p) (e::R) [] j) (Ep P w K C d A0 i ES t):=by
 subst e1 e2 B e4 e5 e6;refine⟨λm s M H Q I h=>?_⟩;obtain⟨f,hf,h⟩:=h;refine q_ (bL ((za hN hv Z V9).run m s M H (λv z=>v=.ref f/\z=H) I ⟨_,hf,U,U⟩) λu s1 D=>?_);obtain⟨xx,z,G,rx,ex,eh⟩:=D;subst ex eh;obtain rfl:u=Value.ref f:=rx;have key:=ha j m s1 M z _ G h;rw[he]at key⊢;refine PySem.W.callWith_of (first:=[]) (P:=λh=>∃o O,h.get? f=some o/\o.data=.func O) (by show((false||(backTo j<|starEach R X.env).any (·.1))||false)=false;rw[J];rfl) Cd (PySem.Calls.evalArgs_plain ?_);refine bL key λus s2⟨vs,H2,Y,r,o,O,k,ps,sp,L,hd,F,hr,hb,q⟩=>⟨⟨o,O,gO Y.hok L,hd⟩,?_⟩;exact rK (us:=us) (vs:=vs) (ds:=[]) (dvs:=[]) F hr hb .nil hx Y r (by rw[MM];exact q)
end
def Hl{P:Vt}{w:Vu}{K:ZF}{mg:Str->Option Vq}{base:Heap}{X:Cx}{k:Nat}{H:Hp}{C:St}{q:List (Vr×Obj)}{f:Vr}{qual:Str}{params:Arguments}{t:Expr}{p:Scope}{r fr:Vx}{ix:Vy}{vC:VA}{te:XK->TE}
  (L:xP X H f qual params t p) (Y:iN X C q) (n:∀b o,q.lookup b=some o->H b=none) (hok:kc X.N X.env.scope p r fr ix=true) (O:oB p r fr=true) (hv:∀(j i:Nat),ix[j]?=some i->∃v,vC[j]?=some v/\C[i]?=some (some v)) (hl:vC.length=fr.length)
  (Z:∀(m:List (Str×Vr))(pm cd ct:Vq)(R:List Vq),R.length=r.length->bindArgs (PySem.W.kla_fn "<lambda>" qual params t p m pm cd ct) ⟨R,[]⟩=pure (r.zip R))
  (M:∀(c:Vr)(m:List (Str×Vr))(A:Vv)(outer:List Env)(s:Vs)(H:Hp)(E:XK),P9 k (A.deeper<|rJ qual p s.heap.objs.size f c m)->PE ((Eo P w K mg base (r++fr) qual p f c m A outer s H E).esc λ_=>E) t (te E)) :
  ∃o I sp,trkL H q f=some (iY f o)/\o.data=.func I/\P7 P w K mg base (ku P w) (k+1) f I r sp/\Qk K I r []/\∀vs Q E,vs.length=r.length->
   te (λe d z=>(∀b o,q.lookup b=some o->z b=none)->E e d (trkL z q)) (vs.map some++vC.map some) H (λv z=>(∀b o,q.lookup b=some o->z b=none)->Q v (trkL z q))->sp vs (trkL H q) Q E:=by
 obtain⟨c,pm,ctv,m,D,B,G⟩:=y2 L Y hok hv hl;refine⟨_,_,_,ck n D,U,Hk (pm:=pm) (ctv:=ctv) (params:=params) (qual:=qual) (c:=c) (te:=te) O G<|M c m,.all λR h=>Z m pm (.ref c) ctv R h,λvs Q E J h=>⟨J,ck n D,ck n B,wy,?_⟩⟩;rw[y0 n];exact h
end L2
namespace XD
open PySem PySem.SeqAt PySem.MeetsSeq
def QW(l:Vr)(z:Array DictEntry)(ep:Nat)(q:Option Vr)(D:Array (Option Vq))(b:Str)(u:Tok):
  Meets (Builtin.«dict.__eq__» ⟨[.ref l,.str b u],[]⟩) (λ_ R s=>s.heap.get? l=some {cls:=.type "dict",dict:=q,data:=.dict z ep,slots:=D}/\R (.ok<|.ret .notImplemented) s):=
 .of_wp λe w A R s h=>by
  obtain⟨O,h⟩:=h;have I:s.TypeIs (.ref l) "dict":=⟨_,O,U⟩;show wpAny _ _ (Builtin.Dict.dictSlotArgs "__eq__" ⟨[.ref l,.str b u],[]⟩>>=_) _ _ s;refine a_ ?_;unfold Builtin.Dict.dictSlotArgs;refine a_ (wpAny_notOrdered_dict I ?_);refine d_ ?_;refine a_ (wpAny_isInstance (T:="str") (Tp s b u) (by rfl:isSubtype (.type "str") (.type "dict")=pure false) ?_);simp only[Bool.not_false,K_];exact a_ (wpAny_rule<|d_ ⟨_,U,h⟩)
def QS(b:Str)(u:Tok)(l:Vr)(c:Vq)(O:Array DictEntry)(ep:Nat)(z:Option Vr)(I:Array (Option Vq)):
  Meets (Builtin.«str.__eq__» ⟨[.str b u,.ref l],[]⟩) (λ_ R s=>s.heap.get? l=some {cls:=c,dict:=z,data:=.dict O ep,slots:=I}/\R (.ok<|.ret .notImplemented) s):=
 .of_wp λe w A R s h=>by obtain⟨D,g,d,L,os⟩:=s;obtain⟨q,h⟩:=h;wp_walk using AutoSeq1.wpAny_loadPart' q,wpAny_load q;exact⟨_,U,h⟩
def RE(b:Str)(u:Tok)(z:s.heap.get? l=some {cls:=.type "dict",dict:=dd,data:=.dict e ep,slots:=sl})(O:A.units<cLine):RcAt A s (.str b u) (.ref l) false:=λt w E Q h=>
 rc_eq_decline_or (k:=false) (Tp s b u) ⟨_,z,U⟩ zd (by rfl:isSubtype (.type "dict") (.type "str")=pure false) F.slot_str_eq F.slot_dict_eq_refl
  (λ_ q=>T9 F.slot_str_eq (Tp s b u) F.entry_str_eq (F.args_str_eq_2 _ _) (QS b u l (.type "dict") e ep dd sl) ⟨z,q⟩)
  (λ_ q=>T9 F.slot_dict_eq_refl ⟨_,z,U⟩ F.entry_dict_eq (F.args_dict_eq_2 _ _) (QW l e ep dd sl b u) ⟨z,q⟩)
  (λ_ q=>wpAny_of_eq (rfl:isSame (.str b u) (.ref l)=pure false) q) (.inr O) h
def eq_str_dict(b:Str)(u:Tok)(z:s.heap.get? l=some {cls:=.type "dict",dict:=dd,data:=.dict t ep,slots:=sl})(O:A.units<cLine):EqAt A s (.str b u) (.ref l) false:=λe w E Q h=>by
 unfold eqBool;refine p_ ?_;refine wpAny_ite_split (λq=>absurd (eq_of_beq q) nofun) (λ_=>?_);exact a_ (RE b u z O e w E _<|m_ h)
end XD
namespace L2
open PySem PySem.Spec PyProof.Rows
def xV(K:ZF)(H:Hp)(a:Vr):Prop:=(∃t,P8 K H a t)\/(∃t,P5 K H a t)\/∃e,H a=some (.dK e)
section
def uo(I:P6 X i m H s)(t:xV X.K H a)(q:A.units<cLine)(b:Str)(u:Tok):SeqAt.EqAt A s (.str b u) (.ref a) false:=by
 rcases t with⟨d,t⟩|⟨d,t⟩|⟨e,t⟩
 ·obtain⟨z,_,pl,_⟩:=I.list t;exact SeqAt.EqAt.str_list b u pl.isList q
 ·obtain⟨z,_,pl,_⟩:=I.tuple t;exact SeqAt.EqAt.str_tuple b u pl q
 ·obtain⟨_,_,vs,_,o,G,ep,D,L,r,_⟩:=(show Qe X.prog X.w H s.heap a (.dK e)from I.hok a _ t);obtain⟨c,Y,dt,J⟩:=o;cases r;have O:c=.type "dict":=L.1;subst O;exact XD.eq_str_dict b u D q
def oC(h:∀b u,SeqAt.EqAt A s (.str b u) (.ref a) false):∀{o:Vx}{e:List Vq},Qb (o.map V.str) e->∀u∈e,SeqAt.EqAt A s u (.ref a) ((λ_=>false) u)
 |[],_,.nil=>λu q=>by cases q
 |x::o,u::e,.cons r t=>λz q=>by
  rcases Mo.mp q with rfl|q
  ·obtain⟨i,rfl⟩:=r;exact h x i
  ·exact oC h t z q
def Ce{l:List Vq}:l.toArray.any (λ_=>false)=false:=by
 rw[Array.any_eq_false];intro i h;exact MA
def xW(K:ZF):R2:=λx y H Q=>∃(a p:Vr)(e:Vx),x=.ref a/\y=.ref p/\xV K H a/\(P8 K H p (e.map V.str)\/P5 K H p (e.map V.str))/\Q (.bl true) H
def lH(hr:P9 k X.A):fM X (compareOp .NotIn) (xW X.K):=by
 intro e s i H x y v u Q I G J h;obtain⟨a,p,o,rfl,rfl,t,z,q⟩:=h;cases G;cases J;have L:X.A.in1.units<cLine:=by
  have:=hr.un;show X.A.units+1<_;lia
 have ne:=uo I t L;rcases z with z|z
 ·obtain⟨D,r,pl,Y⟩:=I.list z;refine SeqAt.notIn_listAt (λ_=>false) pl.isList (λw O=>oC ne r w<|by simpa using O) ⟨.bl _,H,I,U,?_⟩;rw[Ce];exact q
 ·obtain⟨D,r,pl,Y⟩:=I.tuple z;refine SeqAt.notIn_tupleAt (λ_=>false) pl (λw O=>oC ne r w<|by simpa using O) ⟨.bl _,H,I,U,?_⟩;rw[Ce];exact q
def pN [DecidableEq κ]:∀{ka:List (κ×Vq)},(∀k v,(k,v)∈ka->valueAt kb k=some v)->PySem.W.KeqHits A s kb ka true
 |[],_=>.nil
 |(k,v)::r,h=>by
  have:=PySem.W.KeqHits.hit (e:=true) (b:=true) (h k v Mf) (SeqAt.EqAt.same v) (pN (A:=A) (s:=s) (ka:=r) λk v m=>h k v<|Mn _ m);exact this
def xX(K:ZF):R2:=λx y H Q=>y=x/\((∃d,Dt K H x d/\d.canLay0=true/\d.depth<=60/\PyData.eqv d d=true)\/∃a e,x=.ref a/\H a=some (.dK e))/\Q (.bl true) H
def y4(hr:P9 k X.A):fM X (compareOp .Eq) (xX X.K):=by
 intro t s N H x y v u Q I L Y h;obtain⟨rfl,h,q⟩:=h;rcases h with⟨d,o,p,G,J⟩|⟨a,f,rfl,o⟩
 ·refine So hr t s N H y y v u Q I L Y ⟨d,d,o,o,p,p,MP (Nat.min_le_left _ _) G,?_⟩;rw[J];exact q
 ·cases L;cases Y;obtain⟨_,O,vs,_,D⟩:=(show Qe X.prog X.w H s.heap a (.dK f)from I.hok a _ o);have nd:(vs.map (·.1)).Nodup:=by obtain⟨_,_,_,_,_,_,_,_,z⟩:=id D;exact z
  have j:X.A.units<cLine:=by
   have:=hr.un;lia
  refine PySem.W.keq_eq (r:=true) O O D D j (λ_=>pN λk v m=>?_) ⟨.bl _,H,I,U,?_⟩
  ·obtain⟨i,Z,e⟩:=List.mem_iff_getElem.mp m;exact valueAt_of_get nd (i:=i) (by rw[Mi Z,e])
  ·simpa using q
end
end L2
namespace L2
def Ll(q z:R2):R2:=λx y H Q=>q x y H Q\/z x y H Q
def iO(a:fM X f o)(b:fM X f i):fM X f (Ll o i):=by
 intro e s t H x y v u Q I q z h;rcases h with h|h
 ·exact a e s t H x y v u Q I q z h
 ·exact b e s t H x y v u Q I q z h
end L2
namespace L3
open PySem L2
abbrev rL:Stmt:=dk (top 30) 0
abbrev rM:Stmt:=dk (top 35) 0
abbrev pO(R:Vr):List Vq:=.ref R::XB.bmV
structure Xs(K:ZF)(mg:Str->Option Vq)(R fR cK fK cT cN:Vr):Prop where
 r:XC K R "RowsError" XB.bmV
 k:XC K cK "NoKind" (pO R)
 t:XC K cT "NotPlain" (pO R)
 n:XC K cN "NoName" (pO R)
 na:Qm K cK "name"
 mkx:Lh K cK fK
 ri:Fu K R "__init__" fR
 mR:mg "RowsError"=some (.ref R)
 mK:mg "NoKind"=some (.ref cK)
 mT:mg "NotPlain"=some (.ref cT)
 mN:mg "NoName"=some (.ref cN)
 val:mg "ValueError"=none
inductive Kc(K:ZF)(vs:VA)(H:Hp)(Q:VK)(t:XK):Prop
 |mk(e x C d r o nm bm:_):vs=[.ref e,x]->Re H e C d r o->XC K C nm bm->Q .non H->Kc K vs H Q t
inductive Er(C:Vr)(vs:VA)(H:Hp)(Q:VK)(i:XK):Prop
 |mk(e x:_):vs=[.ref e,x]->Re H e C none false []->(∀t d,Re t e C (some d) false [("name",x)]->(∀b o,H b=some o->b≠e->t b=some o)->Q .non t)->Er C vs H Q i
section
def Lm:ax [Ui,US] [Ui,US] (aj rL):=cP zk
def JC(F:Qj K "__init__" "RowsError.__init__" rL f o)(T:Xs K m R fR cK fK cT cN):P7 P w K m t ce 1 f o [Ui,US] (Kc K):=by
 have ZZ:=Lm
 walk_at "o"
 ·obtain⟨e,x,C,d,r,i,nm,z,rfl,O,c,q⟩:=h;exact⟨_,ai<|aL<|Ei U T.val<|bj (pv 0)<|pv 1,_,U,_,U,e,[x],C,d,r,i,nm,z,U,(by show 1<=1000;decide),O,c,q⟩
inductive Kd(P:Vt)(w:Vu)(K:ZF)(o:Str->Option Vq)(e:Heap)(fR:Vr):Prop
 |mk(t:_):Qk K t [Ui,US] []->P7 P w K o e ce 1 fR t [Ui,US] (Kc K)->Kd P w K o e fR
def Hm(h:Kd X.prog X.w X.K X.mg X.base fR)(T:Xs X.K X.mg R fR cK fK cT cN)(hr:P9 1 X.A)(L:Gl X "RowsError")(I:PA X (e::i) t)
  (O:starEach (e::i) X.env=(false,eval e X.env)::starEach i X.env:=by rfl) (z:(backTo o<|starEach i X.env).any (·.1)=false:=by rfl) (pl:Sem Bool)
  (Y:eval (.Call (.Attribute (.Name "RowsError" p) "__init__" G') (e::i) [] o) X.env=(do
   let q <-eval (.Name "RowsError" p) X.env
   standAt G'.atName
   let(f,first) <-holding [q] (getMethod q "__init__" pl)
   callWith o f first (backTo o<|starEach (e::i) X.env) (backToKw o<|keywordEach [] X.env))) :
  PE X (.Call (.Attribute (.Name "RowsError" p) "__init__" G') (e::i) [] o) (wN (Kc X.K) [] E0 t):=by
 obtain⟨G,D,F⟩:=h;exact BS (pl:=pl) T.ri F hr L T.mR D lL I zd O z Y
def Ln:ax [Ui,"name"] [Ui,"name"] (aj rM):=cP zk
def JD(F:Qj K "__init__" "NoKind.__init__" rM f r)(T:Xs K t R fR cK fK cT cN)(O:Kd P w K t base fR):P7 P w K t base ce 2 f r [Ui,"name"] (Er cK):=by
 have ZZ:=Ln
 walk_at "o"
 ·obtain⟨e,x,rfl,I,q⟩:=h;refine⟨_,ae (aL<|Hm O T hr U (bj (pv 0) ah) U U _ U)<|ai<|Eh (pv 0)<|pv 1,_,U,e,_,cK,none,false,[],"NoKind",pO R,U,I,T.k,_,U,_,U,e,cK,none,false,[],"NoKind",pO R,U,I,T.k,T.na,(by show 0<1000;decide),λD d' i=>?_⟩;exact q D d' i.at_ λb o L ne=>i.keep b o L ne (λz=>nomatch z)
def RB(K:ZF)(H:Hp)(D:Fm)(z:V):Prop:=(eU z=true/\ic z (am<|D.kinds.map Kn.name)=false)\/∃a,z=.ref a/\xV K H a
def Qy(O:Vr)(z:V)(H:Hp)(E:XK):Prop:=∀e d q,P4 H q->H e=none->Re q e O (some d) true [("name",z)]->E (.ref e) none q
inductive kh(K:ZF)(C:Vr)(cK:Vr)(vs:VA)(H:Hp)(Q:VK)(E:XK):Prop
 |mk(v D z:_):vs=[v,z]->QK C H v D->((∃(x:Str)(j:Nat),z=.str x/\(D.kinds.map Kn.name)[j]?=some x/\(∀m,m<j->(D.kinds.map Kn.name)[m]?≠some x)/\Q (.int j) H)\/(RB K H D z/\Qy cK z H E))->kh K C cK vs H Q E
def Cf(F:Qj K "kind_at" "Table.kind_at" qQ f m)(T:Tc K C)(I:Xs K i R fR cK fK cT cN)(FK:P7 P w K i t ce 2 fK fdK [Ui,"name"] (Er cK))(BK:Qk K fdK [Ui,"name"] []):
  P7 P w K i t (ku P w) 4 f m [Ui,Uv] (kh K C cK):=by
 refine F.okX AQ (λvs H Q E h=>?_) (λOf A outer s H vs Q E hr h=>?_)
 ·obtain⟨v,D,z,rfl,_⟩:=h;rfl
 ·obtain⟨v,D,z,rfl,⟨a,L,pp,pm,pn,pk,us,rfl,Z,XS,W4,O,YU,Od⟩,h⟩:=h;have V':P9 3 _:=hr;refine⟨_,ae (aP (cy (iO dX<|lH hr) (pv 1) (eJ (pv 0) U) U) (ai<|B7 (BR I.k I.mkx FK V' U I.mK BK lL zd<|aV<|pv 1) eY U) ay)
   (ai<|ao<|GI PySem.F.plainAttrs_tuple PySem.F.slot_tuple_index PySem.F.type_tuple_index tI (eJ (pv 0) U)<|aV<|pv 1),?_⟩
  refine⟨_,U,_,U,a,C,L,_,_,U,Z,T.cl,T.na UE zk,U,?_⟩;rcases h with⟨x,j,rfl,J,p,q⟩|⟨nk,q⟩
  ·have M:x∈D.kinds.map Kn.name:=Mr J;refine .inl ⟨pn,_,U,.inr<|P5.of O,U,cQ _,_,U,aY ?_ ?_⟩
   ·show(!ic (.str x) (am<|D.kinds.map Kn.name))=false;rw[dZ,MV.mpr M];rfl
   ·exact⟨_,U,a,C,L,_,_,U,Z,T.cl,T.na UE zk,U,pn,_,U,O,_,U,pn,_,x,j,U,U,P5.of O,J,p,q⟩
  ·have rs:B6 K (BQ cK (Er cK) E0<|dw (kB 1) oK) (λ_=>E) {nx:=λ_ r=>Q .non r,rt:=Q} (start [Ui,Uv] [.ref a,z]) H:=by
    refine⟨_,U,λe G=>⟨e,z,U,⟨aa,by show 0<=1000;decide,U⟩,λX d xa k=>⟨U,e,cK,some d,_,"NoKind",pO R,U,xa,I.k,?_⟩⟩⟩;obtain⟨x1,B,x3,x4⟩:=xa;refine q e d _ (λb o Y=>?_) G ⟨aa,B,x3,by rw[al x3];exact x4⟩;have ne:b≠e:=au Y G;rw[al ne];exact k b o (by rw[al ne];exact Y) ne
   rcases nk with⟨fl,N⟩|⟨b,rfl,rt⟩
   ·exact .inl ⟨pn,_,U,.inr<|P5.of O,fl,cQ _,_,U,bx (by show(!ic z (am<|D.kinds.map Kn.name))=true;rw[N];rfl) rs⟩
   ·exact .inr ⟨b,pn,D.kinds.map Kn.name,U,U,rt,.inr<|P5.of O,_,U,bx U rs⟩
inductive rN(P:Vt)(w:Vu)(K:ZF)(i:Str->Option Vq)(e:Heap)(C:Vr)(nm:Str)(n:Nat)(t:Vx)(sp:Sp):Prop
 |mk(f o:_):yi K C nm f->P7 P w K i e (ku P w) n f o t sp->Qk K o t []->rN P w K i e C nm n t sp
inductive mH(K:ZF)(C:Vr)(cK:Vr)(vs:VA)(H:Hp)(Q:VK)(E:XK):Prop
 |mk(v D z:_):vs=[v,z]->QK C H v D->((∃x:Kn,z=.str x.name/\tH D/\x∈D.kinds/\∀b,RD H x.dd b->Q b H)\/(RB K H D z/\Qy cK z H E))->mH K C cK vs H Q E
inductive xY(K:ZF)(C:Vr)(cK:Vr)(vs:VA)(H:Hp)(Q:VK)(E:XK):Prop
 |mk(v D z:_):vs=[v,z]->QK C H v D->((∃x:Kn,z=.str x.name/\tH D/\x∈D.kinds/\∀tf e,H tf=some (.tup e)->Paired (Qp H) e x.fs->Q (.ref tf) H)\/(RB K H D z/\Qy cK z H E))->xY K C cK vs H Q E
def Cg(F:Qj K Vd "Table.deed" AM f t)(T:Tc K C)(KA:rN P w K m e C "kind_at" 4 [Ui,Uv] (kh K C cK)):P7 P w K m e (ku P w) 5 f t [Ui,Uv] (mH K C cK):=by
 refine F.okX GK (λvs H Q E h=>?_) (λOf A outer s H vs Q E hr h=>?_)
 ·obtain⟨v,D,z,rfl,_⟩:=h;rfl
 ·obtain⟨v,D,z,rfl,L,h⟩:=h;obtain⟨a,I,pp,pm,pn,pk,N,rfl,G,XS,W4,XT,YU,Od⟩:=id L;have X9:P9 4 _:=hr;obtain⟨f1,Oa,M1,Z,J⟩:=KA;refine⟨_,ai<|ao<|cB (cB (eJ (pv 0) U)<|kg (pv 0) T.cl M1 Z X9 J .nil eY<|aV<|pv 1) af,_,U,a,C,I,_,_,U,G,T.cl,T.na UC zk,U,_,U,a,I,_,U,G,U,_,U,_,D,z,U,L,?_⟩;rcases h with⟨x,rfl,hD,d,q⟩|⟨nk,q⟩
  ·obtain⟨j,Y⟩:=AO d;obtain⟨u,r,p,tf,b,fu,rfl,i,Zh,Wn,o⟩:=lN Od Y;have O:(D.kinds.map Kn.name)[j]?=some x.name:=by rw[Mt,Y];rfl
   exact .inl ⟨x.name,j,U,O,tK hD.kn O,pk,N,_,_,U,U,P5.of YU,aI r,p,_,_,_,U,U,P5.of i,iW,q b o⟩
  ·exact .inr ⟨nk,q⟩
def Hn(F:Qj K "fields_of" "Table.fields_of" lB f t)(T:Tc K C)(KA:rN P w K d e C "kind_at" 4 [Ui,Uv] (kh K C cK)):P7 P w K d e (ku P w) 5 f t [Ui,Uv] (xY K C cK):=by
 refine F.okX KZ (λvs H Q E h=>?_) (λOf A outer s H vs Q E hr h=>?_)
 ·obtain⟨v,D,z,rfl,_⟩:=h;rfl
 ·obtain⟨v,D,z,rfl,L,h⟩:=h;obtain⟨a,I,pp,pm,pn,pk,m,rfl,G,XS,W4,XT,YU,Od⟩:=id L;have X9:P9 4 _:=hr;obtain⟨f1,Oa,M1,Z,J⟩:=KA;refine⟨_,ai<|ao<|cB (cB (eJ (pv 0) U)<|kg (pv 0) T.cl M1 Z X9 J .nil eY<|aV<|pv 1) af,_,U,a,C,I,_,_,U,G,T.cl,T.na UC zk,U,_,U,a,I,_,U,G,U,_,U,_,D,z,U,L,?_⟩;rcases h with⟨x,rfl,hD,r,q⟩|⟨nk,q⟩
  ·obtain⟨j,Y⟩:=AO r;obtain⟨u,i,p,tf,b,fu,rfl,o,Zh,Wn,N⟩:=lN Od Y;have O:(D.kinds.map Kn.name)[j]?=some x.name:=by rw[Mt,Y];rfl
   exact .inl ⟨x.name,j,U,O,tK hD.kn O,pk,m,_,_,U,U,P5.of YU,aI i,p,_,_,_,U,U,P5.of o,U,q tf fu Zh Wn⟩
  ·exact .inr ⟨nk,q⟩
end
def Ch(K:ZF)(H:Hp)(x:V):Prop:=zj x x=true\/(∃d,Dt K H x d/\d.canLay0=true/\d.depth<=60)\/∃a e,x=.ref a/\H a=some (.dK e)
def Es(h:Ch K H x)(q:Q (.bl true) H):Ll Ly (xX K) x x H Q:=by
 rcases h with e|⟨d,e,t,z⟩|e
 ·refine .inl ⟨e,?_⟩;rw[b_ rfl];exact q
 ·exact .inr ⟨U,.inl ⟨d,e,t,z,SeqAt.eqv_refl d t⟩,q⟩
 ·exact .inr ⟨U,.inr e,q⟩
inductive Lo(K:ZF)(H:Hp)(x:V):Prop
 |mk(t b:_):jE K H x t->PySem.W.kitOne K t (.type "bool")=some b->Lo K H x
def Fx(K:ZF)(H:Hp)(x:V):Prop:=∀q,P4 H q->Ch K q x/\Lo K q x
inductive iP(P:Vt)(w:Vu)(K:ZF)(r:Str->Option Vq)(e:Heap)(cK:Vr)(k:Nat)(vs:VA)(H:Hp)(Q:VK)(m:XK):Prop
 |mk(f z o t d sp:_):vs=[.ref f,z]->H f=some (iY f o)->o.data=.func t->P7 P w K r e (ku P w) k f t d sp->Qk K t d []->Fx K H z->(∀Q' E,Qy cK z H E->sp [z] H Q' E)->(∀i,P4 H i->Q (.bl true) i)->iP P w K r e cK k vs H Q m
section
def Sw:ax ["_law_ask",UV,"_law_told",Vi] ["_law_ask",UV] (aj nr):=cP zk
def wz(F:Qj K "_law_refused" "_law_refused" nr f j)(B:Bl p)(O:Xs K p R fR cK fK cT cN):P7 P w K p m ce (k+1) f j ["_law_ask",UV] (iP P w K p m cK k):=by
 have ZZ:=Sw
 walk_at "o"
 ·obtain⟨fa,z,o,L,ps,sp,rfl,C,N,Fa,Ba,M,Ww,q⟩:=h;refine⟨_,ae (bP 2 Sw.nd gY)
   (ae (Hh (i:=3) U (λpn ES=>ai<|aL<|y3 P w K p m hr (i:=0) U (Or.inl U) eY<|aV<|pv 1) (λA pn=>ai<|bP 2 Sw.nd<|pv 3) U O.mR O.r Sw.nd U U)
   (ae (aP (PW.pt (fL (dW<|dq<|aC xL (by rfl) B.isinstance c8<|bj (pv 2)<|bf (v:=.ref cK) U O.mK U)
    (dU<|dq<|aC xL (by rfl) B.isinstance c8<|bj (pv 2)<|bf (v:=.ref cT) U O.mT U))) (ai<|ao gQ) ay)
   (ai<|ao<|fX (uC (iO aR<|y4 hr) (xO (pv 2) U)<|pv 1)<|fb<|uC aR (aC (gF (T:="bool")) (by rfl) B.isinstance c8<|bj (xO (pv 2) U)<|iZ (by rfl) B.bool gI)<|aC (gF (T:="bool")) (by rfl) B.isinstance c8<|bj (pv 1)<|iZ (by rfl) B.bool gI))),?_⟩
  refine⟨fa,U,_,U,o,L,k,ps,sp,C,N,Fa,hr,Ba,Ww _ _ λe d H1 s1 _ D=>?_⟩;have XX:(Value.ref cK::pO R).contains (.ref R)=true:=by simp[x_]
  have XJ:(Value.ref cK::pO R).contains (.ref cK)=true:=by simp[x_]
  have X:cK≠cT:=O.k.ne O.t zk;have n3:R≠cT:=O.r.ne O.t zk;have Y:(Value.ref cK::pO R).contains (.ref cT)=false:=by simp[x_,X.symm,n3.symm]
  refine⟨e,cK,some d,_,"NoKind",pO R,U,D,O.k,XX,_,U,_,U,e,cK,some d,true,_,"NoKind",pO R,cK,"NoKind",pO R,U,D,O.k,O.k,_,U,?_⟩;refine aY (by rw[XJ];rfl) ?_;refine⟨_,U,e,cK,some d,true,_,"NoKind",pO R,cT,"NotPlain",pO R,U,D,O.k,O.t,_,U,aY Y ?_⟩;have I:=D;have Z:=s1;obtain⟨se,tt,b,J,G⟩:=M _ Z;refine⟨_,U,e,cK,d,true,_,"NoKind",pO R,z,U,I,O.k,O.na,U,_,U,Es se ⟨true,U,kG ?_⟩⟩;refine⟨_,U,e,cK,d,true,_,"NoKind",pO R,z,U,I,O.k,O.na,U,z,tt,b,U,J,G,_,U,z,tt,b,U,J,G,U,?_⟩;rw[b_ rfl];exact q _ Z
end
def HR:Vx:=["number",U7,Uh]
def HS:Vx:=["number",U7,Uh,Uk]
structure Ho(K:ZF)(mg:Str->Option Vq)(aA aG:Vr):Prop where
 ad:mg "ADDRESSES"=some (.ref aA)
 adq:∀H,P5 K H aA (am HR)
 sg:mg "SINGLES"=some (.ref aG)
 sgq:∀H,P5 K H aG (am HS)
def Hq{a b:Str}(h:a≠b):decide (V.str a=V.str b)=false:=c_ λz=>h (V.str.inj z)
def qb{Q:VK}{a b:Bool}{H:Hp}(e:a=b)(h:Q (.bl b) H):Q (.bl a) H:=by rw[e];exact h
def xZ:Ed->Str
 |.num _=>"number"
 |.fld _=>U7
 |.pl _ _=>Uh
 |.mk _ _=>Uk
 |.cell _=>"cell"
 |.two o _ _=>o
def uq:∀{e:Ed},QJ H e v->∃p r,v=.ref p/\H p=some (.tup (.str (xZ e)::r))
 |.num _,⟨p,a,b⟩=>⟨p,_,a,b⟩
 |.fld _,⟨p,a,b⟩=>⟨p,_,a,b⟩
 |.pl _ _,⟨p,u,a,b,c⟩=>⟨p,_,a,b⟩
 |.mk _ _,⟨p,u,a,b,c⟩=>⟨p,_,a,b⟩
 |.cell _,⟨p,u,a,b,c⟩=>⟨p,_,a,b⟩
 |.two _ _ _,⟨p,u,t,a,b,c⟩=>⟨p,_,a,b⟩
def oE(h:o∈dG):ic (.str o) (am HS)=false/\ic (.str o) (am HR)=false/\o≠"cell"/\o≠"number":=by
 have:∀o∈dG,ic (.str o) (am HS)=false/\ic (.str o) (am HR)=false/\o≠"cell"/\o≠"number":=by decide +kernel
 exact this o h
def Fy(h:aJ W d r i m e):ic (.str<|xZ e) (am HR)=lC e:=by
 cases e with
 |two o x y=>
  cases m with
  |zero=>simp[aJ]at h
  |succ m=>
   have t:o∈dG:=by simp only[aJ]at h;exact h.1
   exact(oE t).2.1
 |_=>simp only[xZ,lC];decide +kernel
def Fz(h:aJ W d r i m e):ic (.str<|xZ e) (am HS)=tY e:=by
 cases e with
 |two o x y=>
  cases m with
  |zero=>simp[aJ]at h
  |succ m=>
   have t:o∈dG:=by simp only[aJ]at h;exact h.1
   exact(oE t).1
 |_=>simp only[xZ,tY,lC];decide +kernel
def Hr(h:aJ W d r i m e):decide (V.str (xZ e)=V.str "number")=xp e:=by
 cases e with
 |two o x y=>
  cases m with
  |zero=>simp[aJ]at h
  |succ m=>
   have t:o∈dG:=by simp only[aJ]at h;exact h.1
   exact c_ λz=>(oE t).2.2.2 (V.str.inj z)
 |num n=>exact b_ rfl
 |_=>exact Hq (by simp only[xZ];decide +kernel)
inductive ur(m:Nat)(vs:VA)(H:Hp)(Q:VK):Prop
 |mk(v e W r i o:_)(m':Nat):vs=[v]->QJ H e v->aJ W r i o m' e->m'<=m->(∀t,P4 H t->Q (.bl<|eW e) t)->ur m vs H Q
def mJ:Nat->Sp
 |0=>li
 |m+1=>λvs H Q _=>ur m vs H Q
inductive wB(vs:VA)(H:Hp)(Q:VK)(t:XK):Prop
 |mk(v g W r i o:_)(m:Nat):vs=[v]->Qq H g v->gf W r i o m g->m<=3->(∀e,P4 H e->Q (.bl<|lR g) e)->wB vs H Q t
inductive SF(H:Hp)(v:V)(s:List Sd):Prop
 |mk(p q e u:_):v=.ref p->H p=some (.tup [.str Vk,.ref q,u])->H q=some (.tup e)->Paired (λv g=>Qq H g v) e s->SF H v s
def SF.kt(k:Qi H e)(h:SF H v s):SF e v s:=by obtain⟨p,q,t,u,a,b,c,d⟩:=h;exact ⟨p,q,t,u,a,k _ _ b,k _ _ c,bq (λ_ _ h=>Qq.kt k h) d⟩
def uE:Dd->List (List Sd)
 |.leaf s _=>[s]
 |.ite _ y n=>uE y++uE n
def ki:∀{c:Nat}{d:Dd},eA W p f o m c d->(uE d).length<=2^c
 |c,.leaf s e,h=>Nat.one_le_two_pow
 |0,.ite _ _ _,h=>absurd h (by simp[eA])
 |c+1,.ite t y n,h=>by
  have i:=ki (c:=c) h.2.1;have r:=ki (c:=c) h.2.2;simp only[uE,Md,NN];lia
def Ci:∀{d:Dd},(uE d).all (λs=>s.all lR)=lO d
 |.leaf s e=>by simp only[uE,List.all_cons,List.all_nil,lO,Bool.and_true]
 |.ite t y n=>by simp only[uE,TV,lO,Ci]
def wC:∀{c:Nat}{d:Dd},eA W f r i m c d->∀s∈uE d,s.length<=4/\∀g∈s,gf W f r i m g
 |c,.leaf s e,h=>λp q=>by
  have o:s.length<=4/\(s.filter Sd.isCell).length<=1/\(∀g∈s,gf W f r i m g)/\nZ i e:=by cases c<;>exact h
  rw[MJ.mp q];exact⟨o.1,o.2.2.1⟩
 |0,.ite _ _ _,h=>absurd h (by simp[eA])
 |c+1,.ite t y n,h=>λs q=>by
  rcases MC.mp q with o|o
  ·exact wC (c:=c) h.2.1 s o
  ·exact wC (c:=c) h.2.2 s o
inductive pP(m:Nat)(vs:VA)(H:Hp)(Q:VK):Prop
 |mk(v d W r i o k:_)(c:Nat):vs=[v]->RD H d v->eA W r i o k c d->c<=m->c<=3->(∀l t e,P4 H e->e l=some (.lst t)->Paired (SF e) t (uE d)->Q (.ref l) e)->pP m vs H Q
def kj:Nat->Sp
 |0=>li
 |m+1=>λvs H Q _=>pP m vs H Q
def Cj{α β:Type}{R:α->β->Prop}:∀{e q:List α}{o z:List β},Paired R e o->Paired R q z->Paired R (e++q) (o++z)
 |_,_,_,_,.nil,h=>h
 |_,_,_,_,.cons a t,h=>.cons a (Cj t h)
section
def Ck:ax [Vd] [Vd] (aj qr):=cP zk
def iQ(F:Qj K "leaves_of" "leaves_of" qr f M)(G:Fn P w K mg i "leaves_of" n [Vd] (kj m)):P7 P w K mg i ce (n+1) f M [Vd] (kj<|m+1):=by
 have ZZ:=Ck
 walk_at "o"
 ·obtain⟨v,d,W,C,N,r,k,c,rfl,J,j,ea,ee,q⟩:=h;refine⟨_,(ai<|ao<|jB (bY aR (cB (pv 0) af) ah) (aM<|aV<|pv 0)<|az eK (ap G hr U<|aV<|cB (pv 0) af)<|ap G hr U<|aV<|cB (pv 0) af),?_⟩;cases d with
  |leaf s e=>
   obtain⟨p,q',us,u,rfl,O,X,Od,_⟩:=J;refine⟨_,U,p,_,_,_,U,U,P5.of O,aZ,U,_,U,bx zk ⟨_,U,Qa,λl nl=>?_⟩⟩;have z:=ag (o:=.lst [.ref p]) nl;exact q l _ _ z aa (.cons ⟨p,q',us,u,U,z _ _ O,z _ _ X,bq (λ_ _ h=>Qq.kt (ak z) h) Od⟩ .nil)
  |ite t y n=>
   cases c with
   |zero=>simp[eA]at j
   |succ c=>
   cases m with
   |zero=>lia
   |succ m=>
   obtain⟨p,u,a,b,rfl,O,ht,hy,B⟩:=J;obtain⟨_,D,I⟩:=j;have ly:=ki D;have ei:=ki I;have et:2^c<=2^3:=MH zd (by lia);refine⟨_,U,p,_,_,_,U,U,P5.of O,aZ,U,_,U,aY zk ?_⟩;refine⟨_,U,p,_,_,_,U,U,P5.of O,iW,a,y,W,C,N,r,k,c,U,hy,D,by lia,by lia,λl1 u1 H1 z e1 Z=>?_⟩;refine⟨_,U,p,_,_,_,U,U,P5.of<|z _ _ O,Dz,b,n,W,C,N,r,k,c,U,B.kt<|ak z,I,by lia,by lia,λl2 u2 H2 L e2 R=>?_⟩;have n1:=Z.length;have n2:=R.length;have sz:(100:Nat)<=sizeLine:=by decide
   refine⟨l1,l2,u1,u2,U,U,L _ _ e1,e2,by lia,λl3 n3=>?_⟩;have Y:=ag (o:=.lst (u1++u2)) n3;exact q l3 _ _ ((z.trans L).trans Y) aa (Cj (bq (λ_ _ h=>SF.kt (ak<|L.trans Y) h) Z)<|bq (λ_ _ h=>SF.kt (ak Y) h) R)
def Et:ax ["e"] ["e"] (aj vj):=cP zk
def km(F:Qj K "is_sum" "is_sum" vj f fd)(Z:Ho K mg aA aG)(IS:Fn P w K mg i "is_sum" n ["e"] (mJ m)):P7 P w K mg i ce (n+1) f fd ["e"] (mJ<|m+1):=by
 have ZZ:=Et
 walk_at "o"
 ·obtain⟨v,e,W,B,C,j,m',rfl,R,o,hm,q⟩:=h;refine⟨_,(ae (aP (cy cC (cB (pv 0) af) (aw<|bj ah ah) U) (ai<|ao<|fX (ap IS hr U<|aV<|cB (pv 0) af)<|fb<|ap IS hr U<|aV<|cB (pv 0) af) ay)<|ae (aP (bY aR (cB (pv 0) af) ah) (ai<|ao<|fX (ap IS hr U<|aV<|cB (pv 0) af)<|fb<|uC aR (cB (cB (pv 0) af) af) ah) ay)<|ai<|ao<|jB (bY aR (cB (pv 0) af) ah) (fO cC (cB (cB (pv 0) af) af) (bf (v:=.ref aA) U Z.ad U) U)<|fO cC (cB (pv 0) af) (bf (v:=.ref aG) U Z.sg U) U),?_⟩;obtain⟨p,r,rfl,N⟩:=uq R;refine⟨_,U,p,_,_,_,U,U,P5.of N,aZ,Qa,λtp np=>?_⟩;generalize zz:aB H tp _=H1;have Y:=(nw np zz).1;have et:=(nw np zz).2;clear zz;have I:=Y _ _ N;have ee:=R.kt (ak Y);refine⟨tp,_,U,.inr<|P5.of et,U,U,_,U,?_⟩;cases e with
  |two ow x y=>
   cases m' with
   |zero=>simp[aJ]at o
   |succ m'=>
   cases m with
   |zero=>lia
   |succ m=>
   simp only[aJ]at o;obtain⟨X,hx,hy⟩:=o;obtain⟨p',u,t,d,O,L,ea⟩:=ee;cases d;clear R N I;by_cases W4:ow="+"\/ow="-"
   ·refine bx (by rcases W4 with rfl|rfl<;>(simp only[xZ];decide +kernel)) ?_;have J:eW (.two ow x y)=(eW x&&eW y):=by show(if _ then _ else _)=_;rw[g_ W4]
    refine⟨_,U,p,_,_,_,U,U,P5.of O,cF,u,x,W,B,C,j,m',U,L,hx,by lia,λH2 G=>⟨_,U,bE (λh=>?_) λh=>?_⟩⟩
    ·refine⟨_,U,p,_,_,_,U,U,P5.of<|G _ _ O,iW,t,y,W,B,C,j,m',U,ea.kt<|ak G,hy,by lia,λH3 s3=>?_⟩;exact qb (by rw[J,h];rfl) (q _<|(Y.trans G).trans s3)
    ·exact qb (by rw[J,Nc.mpr h];rfl) (q _<|Y.trans G)
   ·refine aY (by
     have Oe:=not_or.mp W4;show ic (.str ow) (am ["+","-"])=false;rw[dZ];simp[Oe.1,Oe.2]) ?_
    refine⟨_,U,p,_,_,_,U,U,P5.of O,aZ,U,_,U,?_⟩;by_cases D:ow="<<"
    ·refine bx (by simp only[xZ,D];decide +kernel) ?_;have J:eW (.two ow x y)=(eW x&&xp y):=by show(if _ then _ else if _ then _ else _)=_;rw[f_ W4,g_ D]
     refine⟨_,U,p,_,_,_,U,U,P5.of O,cF,u,x,W,B,C,j,m',U,L,hx,by lia,λH2 G=>⟨_,U,bE (λh=>?_) λh=>?_⟩⟩
     ·obtain⟨M,r2,rfl,W5⟩:=uq (ea.kt<|ak G);refine⟨_,U,p,_,_,_,U,U,P5.of<|G _ _ O,iW,M,_,_,_,U,U,P5.of W5,aZ,U,?_⟩;exact qb (by rw[J,h,Hr hy];rfl) (q _<|Y.trans G)
     ·exact qb (by rw[J,Nc.mpr h];rfl) (q _<|Y.trans G)
    ·refine aY (c_ λz=>D<|V.str.inj z) ?_;have J:eW (.two ow x y)=false:=by show(if _ then _ else if _ then _ else _)=_;rw[f_ W4,f_ D]
     refine⟨_,U,p,_,_,_,U,U,P5.of O,aZ,U,_,U,aY (c_ λz=>(oE X).2.2.1<|V.str.inj z) ?_⟩;refine⟨_,U,p,_,_,_,U,U,P5.of O,aZ,aG,_,U,.inr<|Z.sgq _,U,U,?_⟩;exact qb (by rw[J];exact(oE X).1) (q _ Y)
  |cell a=>
   cases m' with
   |zero=>simp[aJ]at o
   |succ m'=>
   simp only[aJ]at o;obtain⟨p',u,d,O,L⟩:=ee;cases d;obtain⟨M,r2,rfl,W5⟩:=uq L;refine aY (by simp only[xZ];decide +kernel) ?_;refine⟨_,U,p,_,_,_,U,U,P5.of O,aZ,U,_,U,aY (Hq<|by first|decide +kernel|(simp only[xZ];decide +kernel)) ?_⟩;refine⟨_,U,p,_,_,_,U,U,P5.of O,aZ,U,_,U,bx (b_ U) ?_⟩;refine⟨_,U,p,_,_,_,U,U,P5.of O,cF,M,_,_,_,U,U,P5.of W5,aZ,aA,_,U,.inr<|Z.adq _,U,U,?_⟩;exact qb (Fy o) (q _ Y)
  |_=>
   refine aY (by simp only[xZ];decide +kernel) ?_;refine⟨_,U,p,_,_,_,U,U,P5.of I,aZ,U,_,U,aY (Hq<|by first|decide +kernel|(simp only[xZ];decide +kernel)) ?_⟩;refine⟨_,U,p,_,_,_,U,U,P5.of I,aZ,U,_,U,aY (Hq<|by first|decide +kernel|(simp only[xZ];decide +kernel)) ?_⟩;refine⟨_,U,p,_,_,_,U,U,P5.of I,aZ,aG,_,U,.inr<|Z.sgq _,U,U,?_⟩;exact qb (Fz o) (q _ Y)
def Rt:ax [UX,UZ,"target","e"] [UX] (aj vi):=cP zk
def Eu(F:Qj K "is_plain_set" "is_plain_set" vi f M)(Z:Ho K j aA aG)(IS:Fn P w K j o "is_sum" n ["e"] (mJ 4)):P7 P w K j o ce (n+1) f M [UX] wB:=by
 have ZZ:=Rt
 walk_at "o"
 ·obtain⟨v,g,W,R,N,r,m,rfl,J,G,d,q⟩:=h;refine⟨_,(ae (gB (pv 0)<|cA U<|aq (eQ 1 Rt.nd)<|aq (eQ 2 Rt.nd)<|aq (eQ 3 Rt.nd) bi)<|ae (aP (bY aR (pv 1) ah) (ai<|ao<|fO cC (cB (pv 3) af) (bf (v:=.ref aG) U Z.sg U) U) ay)<|ai<|ao<|fX (ap IS hr U<|aV<|pv 3)<|fb<|HY (uC aR (pv 1) ah)<|fb<|fO cC (cB (pv 2) af) (bf (v:=.ref aA) U Z.ad U) U),?_⟩;cases g with
  |cell a e=>
   obtain⟨p,u,t,rfl,D,Y,I⟩:=J;obtain⟨ga,O⟩:=G;refine⟨_,U,p,_,U,P5.of D,U,_,_,U,_,_,U,_,_,U,U,_,U,U,_,U,aY zk ?_⟩;refine⟨_,U,_,_,W,R,N,r,m,U,I,O,d,λC z=>⟨_,U,bE (λh=>?_) λh=>?_⟩⟩
   ·obtain⟨i,B,rfl,L⟩:=uq (Y.kt<|ak z);refine⟨_,U,U,_,U,aY zk ?_⟩;refine⟨_,U,i,_,_,_,U,U,P5.of L,aZ,aA,_,U,.inr<|Z.adq _,U,U,?_⟩;exact qb (by show _=(eW e&&lC a);rw[h];exact Fy ga) (q _ z)
   ·exact qb (by show _=(eW e&&lC a);rw[Nc.mpr h];rfl) (q _ z)
  |pl b n e=>
   obtain⟨p,u,t,rfl,D,Y,I⟩:=J;obtain⟨_,O⟩:=G;refine⟨_,U,p,_,U,P5.of D,U,_,_,U,_,_,U,_,_,U,U,_,U,U,_,U,aY zk ?_⟩;refine⟨_,U,_,_,W,R,N,r,m,U,I,O,d,λC z=>⟨_,U,bE (λh=>?_) λh=>?_⟩⟩
   ·refine⟨_,U,U,_,U,bx zk ?_⟩;exact qb (show _=eW e from h.symm) (q _ z)
   ·exact qb (show _=eW e from(Nc.mpr h).symm) (q _ z)
  |mk b n e=>
   obtain⟨p,u,t,rfl,D,Y,I⟩:=J;obtain⟨_,O⟩:=G;obtain⟨i,B,rfl,L⟩:=uq I;refine⟨_,U,p,_,U,P5.of D,U,_,_,U,_,_,U,_,_,U,U,_,U,U,_,U,bx zk ?_⟩;refine⟨_,U,i,_,_,_,U,U,P5.of L,aZ,aG,_,U,.inr<|Z.sgq _,U,U,?_⟩;exact qb (Fz O) (q _<|P4.refl _)
end
end L3
namespace L2
open PySem PySem.Spec PyProof.Rows
variable{K:ZF}{X:Cx}
def Ev{z l:Expr}{tl:TE}(h:X.K=K)(q:PE X l tl):PI X z l (Ij K tl):=by subst h;exact hI q
def Cm{z l:Expr}{tl:TE}(h:X.K=K)(q:PE X l tl):PI X z l (ET K tl):=by subst h;exact cW q
def Hs(Pv:Nat->VA->Hp->Prop)(G:Pv 0 t H)(Z:∀i t H,i<=xs.length->Pv i t H->P5 K H a xs/\t.length<=sizeLine)
  (d:∀i x t H,xs[i]?=some x->Pv i t H->g x o H λz D=>QM o z/\tf z D λb O=>if b=true then f z O λy L=>Nx Pv xs.length i (t++[y]) L else Nx Pv xs.length i t O)
  (r:∀t H,Pv xs.length t H->Q t H):BY (FU K a) g tf f o t H Q:=by
 refine⟨λi m t H=>m=xs.length-i/\i<=xs.length/\Pv i t H,⟨xs.length,by simp,MR _,G⟩,?_⟩;rintro i m t H ⟨rfl,J,p⟩;obtain⟨q,I⟩:=Z i t H J p;by_cases Y:i<xs.length
 ·refine .inr ⟨⟨xs,xs[i],q,by simp[Y]⟩,I,λx v y=>?_⟩;obtain⟨e,y⟩:=y;subst e;exact d i x t _ (y xs q) p
 ·have e:i=xs.length:=by lia
  subst e;exact .inl ⟨⟨xs,q,Ml _⟩,I,r t H p⟩
def Ew(Pv:Nat->VA->Hp->Prop)(G:Pv 0 t H)(Z:∀i t H,i<=xs.length->Pv i t H->P8 K H a xs/\t.length<=sizeLine)
  (d:∀i x t H,xs[i]?=some x->Pv i t H->g x o H λz D=>QM o z/\tf z D λb O=>if b=true then f z O λy L=>Nx Pv xs.length i (t++[y]) L else Nx Pv xs.length i t O)
  (r:∀t H,Pv xs.length t H->Q t H):BY (EQ K a) g tf f o t H Q:=by
 refine⟨λi m t H=>m=xs.length-i/\i<=xs.length/\Pv i t H,⟨xs.length,by simp,MR _,G⟩,?_⟩;rintro i m t H ⟨rfl,J,p⟩;obtain⟨q,I⟩:=Z i t H J p;by_cases Y:i<xs.length
 ·refine .inr ⟨⟨xs,xs[i],q,by simp[Y]⟩,I,λx v y=>?_⟩;obtain⟨e,y⟩:=y;subst e;exact d i x t _ (y xs q) p
 ·have e:i=xs.length:=by lia
  subst e;exact .inl ⟨⟨xs,q,Ml _⟩,I,r t H p⟩
def uv(Pv:Nat->VA->Hp->Prop)(Z:Pv 0 [] H)(f:∀i t H,i<=xs.length->Pv i t H->P8 K H a xs/\t.length<=sizeLine)
  (v:∀i x t H,xs[i]?=some x->Pv i t H->g x (kr ix o) H λz O=>QM (kr ix o) z/\X2 z O λY I=>BY Y g2 tf N z t I λJ L=>Nx Pv xs.length i J L)
  (r:∀t H,Pv xs.length t H->∀D,H D=none->Q (.ref D) (aB H D<|.lst t)):Fv (EQ K a) g X2 g2 tf N ix o H Q:=by
 refine⟨λi m t H=>m=xs.length-i/\i<=xs.length/\Pv i t H,⟨xs.length,by simp,MR _,Z⟩,?_⟩;rintro i m t H ⟨rfl,d,p⟩;obtain⟨q,j⟩:=f i t H d p;by_cases G:i<xs.length
 ·refine .inr ⟨⟨xs,xs[i],q,by simp[G]⟩,λx R y=>?_⟩;obtain⟨e,y⟩:=y;subst e;exact v i x t _ (y xs q) p
 ·have e:i=xs.length:=by lia
  subst e;exact .inl ⟨⟨xs,q,Ml _⟩,j,r t H p⟩
inductive Cn(K:ZF)(x:V)(y:V)(H:Hp)(Q:VK):Prop
 |mk(a b e t:_):x=.ref a->y=.ref b->P5 K H a e->P5 K H b t->t≠[]->e.length+t.length<=sizeLine->(e=[]->Q (.ref b) H)->(e≠[]->∀p,H p=none->Q (.ref p) (aB H p<|.tup<|e++t))->Cn K x y H Q
def Ey:fM X (binaryOp .Add) (Cn X.K):=by
 intro e s σ H x y v u Q I rx ry h;obtain⟨a,b,m,B,rfl,rfl,t,o,f,p,q0,C⟩:=h;by_cases O:m=[]
 ·cases rx;cases ry;obtain⟨f',M,N,_⟩:=I.tuple t;obtain⟨Wx,r2,R,_⟩:=I.tuple o;have h0:f'=[]:=M.nil_iff.mpr O;obtain⟨⟨cls,dd,data,sl⟩,d,i,n,r⟩:=id N;obtain⟨⟨Z,L,D,Y⟩,G,J,j,q⟩:=id R;simp only at i r J q;subst i r J q;exact concat_meets ⟨_,d,U⟩ ⟨_,G,U⟩ noFill_tuple_add seq_tuple_add S1 SX (SW _ _)
   (tuple_addW0 a b f'.toArray Wx.toArray n j dd L sl Y<|by simp[h0]) ⟨d,G,.ref b,H,I,U,q0 O⟩
 ·exact lW e s σ H _ _ v u Q I rx ry ⟨a,b,m,B,U,U,t,o,O,p,λz=>absurd z f,λ_=>C O⟩
def uw(h:X.K=K):fM X (binaryOp .Add) (Cn K):=by subst h;exact Ey
end L2
namespace L3
open PySem L2
def bB(D:Fm)(st:Str):List (Option Nat):=if st=Uh then(List.range D.places.length).map some else if st=Uk then(List.range D.marks.length).map some else [none]
def Ez(n:Nat):oy (List.range n)=((List.range n).map some).map gV:=by
 unfold oy;rw[M8];rfl
inductive oF(C:Vr)(vs:VA)(H:Hp)(Q:VK)(t:XK):Prop
 |mk(v D st:_):vs=[v,.str st]->QK C H v D->D.places.length<=100->D.marks.length<=100->(∀l e,P4 H e->e l=some (.lst<|(bB D st).map gV)->Q (.ref l) e)->oF C vs H Q t
def JE(d:Dd):Prop:=∃W o t e m,m<=3/\eA W o t e m 3 d
inductive iS(K:ZF)(C:Vr)(cK:Vr)(vs:VA)(H:Hp)(Q:VK)(E:XK):Prop
 |mk(v D z:_):vs=[v,z]->QK C H v D->((∃x:Kn,z=.str x.name/\tH D/\x∈D.kinds/\JE x.dd/\∀e,P4 H e->Q (.bl<|lO x.dd) e)\/(RB K H D z/\Qy cK z H E))->iS K C cK vs H Q E
section
def Co:ax [UQ,UZ] [UQ,UZ] (aj qt):=cP zk
def y6(F:Qj K "numbers_for" "numbers_for" qt f i)(B:Bl r)(T:Tc K C):P7 P w K r o ce 1 f i [UQ,UZ] (oF C):=by
 have ZZ:=Co
 walk_at "o"
 ·obtain⟨v,D,st,rfl,⟨a,Y,pp,pm,pn,pk,d,rfl,G,Z,J,XT,YU,Od⟩,l1,l2,q⟩:=h;refine⟨_,(ae (aP (bY aR (pv 1) ah) (ai<|ao<|aU (gj U) (by rfl) B.list fB<|aV<|aU iz (by rfl) B.range iy<|aV<|aC aT (by rfl) B.len MG<|aV<|eJ (pv 0) U) ay)<|ai<|ao<|jB (bY aR (pv 1) ah) (aU (gj U) (by rfl) B.list fB<|aV<|aU iz (by rfl) B.range iy<|aV<|aC aT (by rfl) B.len MG<|aV<|eJ (pv 0) U)<|aM<|aV gY),_,U,U,_,U,bE (λh=>?_) λh=>?_⟩
  ·have e:st=Uh:=V.str.inj (i_ h);refine⟨_,U,a,C,Y,_,_,U,G,T.cl,T.na Ul zk,U,pp,_,U,.inr<|P5.of Z,D.places.length,?_,λL I=>?_⟩
   ·rw[dc]
   refine⟨L,_,U,aa,by lia,λl O=>?_⟩;rw[Ez];exact q l _ ((ag I).trans<|ag O) (by rw[show bB D st=_ from g_ e];exact aa)
  ·have e:st≠Uh:=λz=>h (b_<|e_ V.str z);refine⟨_,U,U,_,U,bE (λt=>?_) λt=>?_⟩
   ·have e2:st=Uk:=V.str.inj (i_ t);refine⟨_,U,a,C,Y,_,_,U,G,T.cl,T.na Up zk,U,pm,_,U,.inr<|P5.of J,D.marks.length,?_,λL I=>?_⟩
    ·rw[dc]
    refine⟨L,_,U,aa,by lia,λl O=>?_⟩;rw[Ez];exact q l _ ((ag I).trans<|ag O) (by rw[show bB D st=_ from(f_ e).trans (g_ e2)];exact aa)
   ·have e2:st≠Uk:=λz=>t (b_<|e_ V.str z);refine⟨Qa,λl O=>?_⟩;exact q l _ (ag O) (by rw[show bB D st=_ from(f_ e).trans (f_ e2)];exact aa)
def Ht:ax [UQ,Uv] [UQ,Uv] (aj jJ):=cP zk
def JF:([Vk,UX]:Vx).Nodup:=by decide +kernel
def wD(F:Qj K "is_plain" "is_plain" jJ f fd)(B:Bl R)(T:Tc K C)(DX:rN P w K R t C Vd 5 [Ui,Uv] (mH K C cK))(LV:Fn P w K R t "leaves_of" n [Vd] (kj 4))(PS:Fn P w K R t "is_plain_set" n [UX] wB)(hn:5<=n):P7 P w K R t (ku P w) (n+1) f fd [UQ,Uv] (iS K C cK):=by
 refine F.okX Ht (λvs H Q E h=>?_) (λOf A outer s H vs Q E hr h=>?_)
 ·obtain⟨v,D,z,rfl,_⟩:=h;rfl
 ·obtain⟨v,D,z,rfl,hT,h⟩:=h;obtain⟨a,dx,pp,pm,pn,pk,r,rfl,ho,XS,W4,XT,YU,Od⟩:=id hT;have ea:P9 5 _:=hr.mono hn;have ei:P9 n _:=hr;have en:P9 n _:=hr;obtain⟨f1,Oa,M1,F1,B1⟩:=DX;refine⟨_,(ai<|ao<|aC (ig U) (by rfl) B.all gw<|aV<|G9 (N':=[Vk,UX]) (ix:=[none,none]) (sc0:=aj jJ) (N:=[UQ,Uv]) U zk (cW<|ap LV ei U<|aV<|kg (pv 0) T.cl M1 F1 ea B1 .nil eY<|aV<|pv 1) (λC d s H fp=>(gZ (i:=0) JF)) (λC d s H fp=>(Ev (K:=K) U<|fw (jP (K:=K) U) (pv 0) af)) (λC d s H fp=>(gZ (i:=1) JF)) (λC d s H fp=>eM) λC d s H fp=>(ap PS en U<|aV<|pv 1)),_,U,a,dx,_,U,ho,U,_,U,_,D,z,U,hT,?_⟩;rcases h with⟨x,rfl,hD,hx,⟨W,ps,ms,fs,m,ZU,I⟩,q⟩|⟨nk,q⟩
  ·refine .inl ⟨x,U,hD,hx,λb hb=>?_⟩;refine⟨b,x.dd,W,ps,ms,fs,m,3,U,hb,I,zd,zd,λl r X s1 e1 M=>⟨l,U,⟨r,P8.of e1⟩,?_⟩⟩;have es:r.length<=8:=by rw[M.length];exact ki I
   have hok:=wC I;have sz:(100:Nat)<=sizeLine:=by decide
   refine uv (K:=K) (a:=l) (xs:=r) (λi o J=>P4 X J/\o.length<=i*4/\o=((uE x.dd).take i).flatMap λs=>s.map λg=>V.bl<|lR g) ⟨P4.refl _,by simp,by simp⟩ (λi o J hi⟨Y,hy,_⟩=>⟨P8.of<|Y _ _ e1,by lia⟩) ?_ ?_
   ·rintro i u o H2 YS ⟨Y,hy,ey⟩;obtain⟨sd,ee,p,q',WJ,u2,rfl,hp,hq,W5⟩:=fh M YS;have Zm:i<r.length:=(Mc.mp YS).1;obtain⟨h4,hg⟩:=hok sd (Mr ee);have Zk:=W5.length;refine⟨trivial,_,U,p,_,_,_,U,U,P5.of<|Y _ _ hp,cF,q',U,⟨_,P5.of<|Y _ _ hq⟩,?_⟩;refine Hs (K:=K) (a:=q') (xs:=WJ) (λj Z J=>P4 X J/\Z.length<=i*4+j/\Z=o++(sd.take j).map λg=>V.bl<|lR g) ⟨Y,by lia,by simp⟩ (λj Z J hj⟨G,X6,_⟩=>⟨P5.of<|G _ _ hq,by lia⟩) ?_ ?_
    ·rintro j v Z H3 et ⟨G,X6,O⟩;obtain⟨gd,ZW,hv⟩:=fh W5 et;refine⟨⟨U,trivial⟩,eO ?_⟩;refine⟨_,U,v,gd,W,ps,ms,fs,m,U,Qq.kt (ak G) hv,hg gd<|Mr ZW,ZU,λH4 s4=>?_⟩;refine Nx.mk (Mc.mp et).1 ⟨G.trans s4,by rw[Md];show _+1<=_;lia,?_⟩;rw[O,k_,ZW,Mq,MS];rfl
    ·rintro Z H3 ⟨G,X6,O⟩;refine Nx.mk Zm ⟨G,by lia,?_⟩;rw[O,Zk,MD,ey,k_,ee,List.flatMap_append];simp
   ·rintro o H2 ⟨Y,hy,ey⟩ L nL;have el:r.length=(uE x.dd).length:=M.length;rw[el,MD]at ey;refine⟨L,(uE x.dd).flatMap λs=>s.map lR,U,?_,?_⟩
    ·have:((uE x.dd).flatMap λs=>s.map lR).map V.bl=o:=by
      rw[ey,List.map_flatMap]
      congr 1
      funext s;rw[M8];rfl
     rw[this];exact P8.of aa
    ·have e:((uE x.dd).flatMap λs=>s.map lR).all id=lO x.dd:=by
      rw[<-Ci,List.all_flatMap]
      congr 1
      funext s;rw[N6];rfl
     rw[e];exact q _ ((s1.trans Y).trans<|ag nL)
  ·exact .inr ⟨nk,q⟩
end
def dh(q:List (Option Nat))(l:List (List<|Option Nat)):List (List<|Option Nat):=l.flatMap λa=>q.map λn=>a++[n]
def i3(D:Fm)(e:Vz):List (List<|Option Nat):=e.foldl (λl f=>dh (bB D f.2) l) [[]]
def ux(D:Fm)(l:Vz)(f:Str×Str):i3 D (l++[f])=dh (bB D f.2) (i3 D l):=by
 unfold i3;rw[List.foldl_append];rfl
def lI(h:ns.length<=4):∀l,(dh ns l).length<=l.length*4
 |[]=>by simp[dh]
 |a::l=>by
  have:=lI h l;simp only[dh,Nz,Md,Me,Mg]at*;lia
def uy(h:∀a∈l,a.length<=i):∀a∈dh ns l,a.length<=i+1:=by
 intro a q;obtain⟨b,z,O⟩:=List.mem_flatMap.mp q;obtain⟨n,_,rfl⟩:=MQ.mp O;have:=h b z;rw[Md];show _+1<=_;lia
def uz(e:D.places.length<=4)(t:D.marks.length<=4)(st:Str):(bB D st).length<=4:=by
 unfold bB;split
 ·rw[Me,SV];exact e
 ·split
  ·rw[Me,SV];exact t
  ·decide
inductive Ri(H:Hp)(v:V)(a:List (Option Nat)):Prop
 |mk(t:_):v=.ref t->H t=some (.tup<|a.map gV)->Ri H v a
def Ri.kt(k:Qi H o)(h:Ri H v a):Ri o v a:=let⟨t,e,x⟩:=h;⟨t,e,k _ _ x⟩
def rO(s:P4 H e)(n:e l=none):H l=none:=by
 cases t:H l with
 |none=>rfl
 |some o=>
  have:=s _ _ t;rw[n]at this;cases this
def Qy.same(h:Qy cK z H E)(s:P4 H t):Qy cK z t E:=λe d q o n x=>h e d q (s.trans o) (rO s n) x
def Hu(K:ZF)(H:Hp)(D:Fm)(z:V):Prop:=∀q,P4 H q->RB K q D z
inductive ko(K:ZF)(C:Vr)(cK:Vr)(vs:VA)(H:Hp)(Q:VK)(E:XK):Prop
 |mk(v D z:_):vs=[v,z]->QK C H v D->((∃x:Kn,z=.str x.name/\tH D/\x∈D.kinds/\x.fs.length<=3/\D.places.length<=4/\D.marks.length<=4/\∀l t e,P4 H e->H l=none->e l=some (.lst t)->Paired (Ri e) t (i3 D x.fs)->Q (.ref l) e)\/(Hu K H D z/\Qy cK z H E))->ko K C cK vs H Q E
section
def QP:ax [UQ,Uv,"told","name",UZ] [UQ,Uv] (aj mh):=cP zk
def JG:(["ahead","number",UZ,UQ]:Vx).Nodup:=by decide +kernel
def y8(F:Qj K "chosen_of" "chosen_of" mh f fd)(T:Tc K C)(FX:rN P w K mg t C "fields_of" 5 [Ui,Uv] (xY K C cK))(NF:Fn P w K mg t "numbers_for" 1 [UQ,UZ] (oF C)):P7 P w K mg t (ku P w) 6 f fd [UQ,Uv] (ko K C cK):=by
 refine F.okX QP (λvs H Q E h=>?_) (λOf A outer s H vs Q E hr h=>?_)
 ·obtain⟨v,D,z,rfl,_⟩:=h;rfl
 ·obtain⟨v,D,z,rfl,hT,h⟩:=h;obtain⟨a,dx,pp,pm,pn,pk,us,rfl,ho,XS,W4,XT,YU,Od⟩:=id hT;have eb:P9 5 _:=hr;have eg:P9 1 _:=hr.mono zd;obtain⟨f1,Oa,M1,F1,B1⟩:=FX;refine⟨_,(ae (bP 2 QP.nd<|aM<|aV<|aw bN)<|ae (cU (Lj U) U (hI<|kg (pv 0) T.cl M1 F1 eb B1 .nil eY<|aV<|pv 1) (cA U<|aq (eQ 3 QP.nd)<|aq (pU (i:=4) QP.nd U<|Or.inr U) bi)<|ai<|yX (i:=2) QP.nd U U (N':=["ahead","number",UZ,UQ]) (ix:=[none,none,some 4,some 0]) (sc0:=aj mh) (N:=[UQ,Uv,"told","name",UZ]) U zk (cW<|pv 2) (λC R s H fp=>(gZ (i:=0) JG)) (λC R s H fp=>(Cm (K:=K) U<|ap NF eg U<|bj (pv 3)<|pv 2)) (λC R s H fp=>(gZ (i:=1) JG)) (λC R s H fp=>eM) λC R s H fp=>(az (uw (K:=K) U) (pv 0)<|aw<|aV<|pv 1))<|ai<|ao<|pv 2),Qa,λt0 eT=>⟨Qa,λl0 X=>?_⟩⟩;generalize Y:aB H t0 _=H0 at*;have s0:=(nw eT Y).1;have ed:=(nw eT Y).2;clear Y;generalize Y:aB H0 l0 _=H1;have eh:=(nw X Y).1;have er:=(nw X Y).2;clear Y;have m:=s0.trans eh;have T1:=hT.same m;refine⟨_,U,a,dx,_,U,m _ _ ho,U,_,U,_,D,z,U,T1,?_⟩;rcases h with⟨x,rfl,hD,hx,eH,YV,ew,q⟩|⟨nk,q⟩
  ·refine .inl ⟨x,U,hD,hx,λtf fu Zh Wn=>⟨tf,U,⟨_,P5.of Zh⟩,?_⟩⟩;have sz:(100000:Nat)<=sizeLine:=by decide
   have XI:=Wn.length;refine lU (K:=K) (a:=tf) (xs:=fu) (λi M I=>∃(v3 v4:Option V)(l:Vr)(r:VA),M=[some<|.ref a,some<|.str x.name,some<|.ref l,v3,v4]/\P4 H1 I/\H l=none/\I l=some (.lst r)/\Paired (Ri I) r (i3 D<|x.fs.take i)/\(i3 D<|x.fs.take i).length<=4^i/\∀a∈i3 D (x.fs.take i),a.length<=i) ⟨_,_,l0,_,U,P4.refl _,rO s0 X,er,.cons ⟨t0,U,eh _ _ ed⟩ .nil,Ml 1,λa ha=>by rw[MJ.mp ha];exact MR _⟩ (λi M I _ Y=>by obtain⟨_,_,_,_,_,s',_⟩:=Y;exact P5.of (s' _ _ Zh)) ?_ ?_
   ·intro i u M B YS z;obtain⟨v3,v4,l,r,rfl,p,nl,el,WK,hsz,X'⟩:=z;obtain⟨O,et,pf,rfl,Wa⟩:=fh Wn YS;have eL:i<x.fs.length:=(Mc.mp et).1;have eN:4^i<=4^2:=MH zd (by lia);have ey:=uz YV ew O.2;refine⟨pf,_,U,P5.of<|p _ _ Wa,U,_,_,U,_,_,U,U,_,U,l,U,⟨r,P8.of el⟩,?_⟩;have ez:=WK.length;refine uv (K:=K) (a:=l) (xs:=r) (λj d I=>P4 B I/\d.length<=j*4/\Paired (Ri I) d (dh (bB D O.2)<|(i3 D<|x.fs.take i).take j)) ⟨P4.refl _,by simp,.nil⟩ (λj d I hj⟨Z,hy,_⟩=>⟨P8.of<|Z _ _ el,by lia⟩) ?_ ?_
    ·rintro j u d H3 ei ⟨Z,hy,Wq⟩;obtain⟨J,ee,ta,rfl,ek⟩:=fh WK ei;have Ya:j<r.length:=(Mc.mp ei).1;have eS:=X' J (Mr ee);refine⟨⟨U,U,trivial⟩,_,U,_,U,_,D,O.2,U,T1.same<|p.trans Z,by lia,by lia,λln H4 s4 en=>⟨ln,U,⟨_,P8.of en⟩,?_⟩⟩;refine Ew (K:=K) (a:=ln) (xs:=(bB D O.2).map gV) (λk G I=>P4 H4 I/\G.length<=j*4+k/\Paired (Ri I) G (dh (bB D O.2) ((i3 D<|x.fs.take i).take j)++((bB D O.2).take k).map λn=>J++[n])) ⟨P4.refl _,by lia,by rw[Ua,Ny,MM];exact bq (λ_ _ h=>Ri.kt (ak s4) h) Wq⟩ (λk G I hk⟨s5,X6,_⟩=>⟨P8.of<|s5 _ _ en,by rw[Me]at hk;lia⟩) ?_ ?_
     ·rintro k v G H5 YR ⟨s5,X6,Yl⟩;have ec:k<((bB D O.2).map gV).length:=(Mc.mp YR).1;obtain⟨nn,ev,rfl⟩:∃nn,(bB D O.2)[k]?=some nn/\gV nn=v:=by
       rw[Mt]at YR;cases e:(bB D O.2)[k]? with
       |none=>rw[e]at YR;cases YR
       |some nn=>rw[e]at YR;exact⟨nn,U,MN YR⟩
      refine⟨⟨U,U,U,trivial⟩,eO ?_⟩;refine⟨_,U,_,U,Qa,λt6 n6=>?_⟩;generalize Y:aB H5 t6 _=H6;have s6:=(nw n6 Y).1;have e6:=(nw n6 Y).2;clear Y;have ea:=s6 _ _ (s5 _ _<|s4 _ _<|Z _ _ ek);have B':∀(tv:V)(H7:Hp),P4 H6 H7->Ri H7 tv (J++[nn])->Nx (λk G I=>P4 H4 I/\G.length<=j*4+k/\Paired (Ri I) G (dh (bB D O.2) ((i3 D<|x.fs.take i).take j)++((bB D O.2).take k).map λn=>J++[n])) ((bB D O.2).map gV).length k (G++[tv]) H7:=by
       intro tv H7 s7 h7;refine Nx.mk ec ⟨(s5.trans s6).trans s7,by rw[Md];show _+1<=_;lia,?_⟩;rw[k_,ev,Mq,<-MS];exact fF h7 (bq (λ_ _ h=>Ri.kt (ak<|s6.trans s7) h) Yl)
      refine⟨ta,t6,_,_,U,U,P5.of ea,P5.of e6,by simp,by rw[Me];show _+1<=_;lia,λh0=>?_,λ_ p7 n7=>?_⟩
      ·have Z9:J=[]:=by simpa using h0
       exact B' _ _ (P4.refl _) ⟨t6,U,by rw[e6,Z9];rfl⟩
      ·exact B' _ _ (ag n7) ⟨p7,U,by rw[Mq];exact aa⟩
     ·rintro G H5 ⟨s5,X6,Yl⟩;rw[Me]at X6 Yl;rw[MD]at Yl;refine Nx.mk Ya ⟨(Z.trans s4).trans s5,by lia,?_⟩;rw[k_,ee];have e:dh (bB D O.2) ((i3 D<|x.fs.take i).take j++[J])=dh (bB D O.2) ((i3 D<|x.fs.take i).take j)++(bB D O.2).map λn=>J++[n]:=by
       unfold dh;rw[List.flatMap_append];simp
      show Paired _ _ (dh _<|_++[J]);rw[e];exact Yl
    ·rintro d H3 ⟨Z,hy,Wq⟩ L nL;rw[ez,MD]at Wq;have e:i3 D (x.fs.take<|i+1)=dh (bB D O.2) (i3 D<|x.fs.take i):=by
      rw[k_,et];exact ux _ _ _
     have s4:=ag (o:=.lst d) nL;refine⟨_,_,L,d,U,(p.trans Z).trans s4,rO ((m.trans p).trans Z) nL,aa,?_,?_,?_⟩
     ·rw[e];exact bq (λ_ _ h=>Ri.kt (ak s4) h) Wq
     ·rw[e,NN];have:=lI ey (i3 D<|x.fs.take i);lia
     ·rw[e];exact uy X'
   ·intro M B z;obtain⟨v3,v4,l,r,rfl,p,nl,el,WK,hsz,X'⟩:=z;rw[XI,MD]at WK;exact⟨_,U,q l r B (m.trans p) nl el WK⟩
  ·exact .inr ⟨nk _ m,q.same m⟩
end
def oG(q:List (Option Nat))(a:List (Option Nat))(l:List (List<|Option Nat)):dh q (a::l)=(q.map λn=>a++[n])++dh q l:=by
 unfold dh;rw[Nz]
def pQ(q:List (Option Nat)):∀l,(dh q l).length=l.length*q.length
 |[]=>by simp[dh]
 |a::l=>by rw[oG,Md,pQ q l,Me,Mg,NR];lia
def uA(q:List (Option Nat)):∀(l:List (List<|Option Nat))(k:Nat),k<l.length*q.length->(dh q l)[k]?=some (l.getD (k / q.length) []++[q.getD (k%q.length) none])
 |[],k,h=>by simp at h
 |a::l,k,h=>by
  have I:0<q.length:=by
   cases e:q.length with
   |zero=>rw[e]at h;simp at h
   |succ m=>lia
  rw[oG];by_cases O:k<q.length
  ·rw[Nk (by rw[Me];exact O),Mt,Mi O,Nat.div_eq_of_lt O,Nat.mod_eq_of_lt O];simp[O]
  ·have z:q.length<=k:=by lia
   rw[Nj (by rw[Me];exact z),Me,uA q l (k-q.length)<|by rw[Mg,NR]at h;lia];have e1:k / q.length=(k-q.length) / q.length+1:=Nat.div_eq_sub_div I z;have e2:k%q.length=(k-q.length)%q.length:=Nat.mod_eq_sub_mod z;rw[e1,e2,List.getD_cons_succ]
def JH{t t':TS}(h:PS X st t)(f:∀D o H,t' D o H->t D o H):PS X st t':=⟨λe s o H D I q=>h.run e s o H D I<|f D o H q⟩
inductive FA(D:Qr)(i:St)(H:Hp):Prop
 |mk(d o l:Vr)(n:V)(st:Str)(ls:Vr)(Dm:Fm)(r t p f m v:_):i=[some<|.ref d,some<|.ref o,some<|.ref l,some n,some<|.str st,some<|.ref ls]->Sa H d Dm r t p f m v->Dm.places.length<=4->Dm.marks.length<=4->H ls=some (.lst [.non])->(∀ls e,P4 H e->e ls=some (.lst<|(bB Dm st).map gV)->D.nx [some<|.ref d,some<|.ref o,some<|.ref l,some n,some<|.str st,some<|.ref ls] e)->FA D i H
inductive rP(vs:VA)(H:Hp)(Q:VK)(m:XK):Prop
 |mk(d i D f o j v p q t:_):vs=[.ref d,.ref i]->Sa H d D f o j v p q->RK H i t->t.length<=3->D.places.length<=4->D.marks.length<=4->(∀l r e,P4 H e->e l=some (.lst r)->Paired (Ri e) r (i3 D t)->Q (.ref l) e)->rP vs H Q m
section
def QD:ax [Ug,Uf,Ur,Ux,Uy,"_law_some"] [Ug,Uf] (aj mj):=cP zk
def Lp:([UR,Ur,"_law_some"]:Vx).Nodup:=by decide +kernel
def Cp{f:Vr}{fd:Vw}(F:Qj K "_law_all_chosen" "_law_all_chosen" mj f fd)(B:Bl mg):P7 P w K mg base ce 1 f fd [Ug,Uf] rP:=by
 have ZZ:=QD
 walk_at "o"
 ·obtain⟨d,R,D,gt,j,lp,lm,lk,us,r,rfl,hV,WP,eN,YV,Z,q⟩:=h;have hu:=eE hr;have sz:(100000:Nat)<=sizeLine:=by decide
  refine⟨_,(ae (i6 (i:=2) QD.nd U (Or.inr U)<|aM<|aV<|aw bN) (ae (cU h_ U (cW<|pv 1) (cA U<|aq (eQ 3 QD.nd)<|aq (eQ 4 QD.nd) bi) (ae (i6 (i:=5) QD.nd U (Or.inr U)<|aM<|aV gY) (ae (JH (t':=FA) (aP (PW.pt<|fL (bY aR (pv 4) ah)<|dU<|bY aR (pv 4) ah) (ai<|i6 (i:=5) QD.nd U (Or.inr U)<|aU (gj U) (by rfl) B.list fB<|aV<|aU iz (by rfl) B.range iy<|aV<|aC aT (by rfl) B.len MG<|aV<|bv hu (pv 0)<|az aH (pv 4) ah) ay) λD' X H3 h=>by
   obtain⟨d,R,l,n,st,ls,D,gt,j,lp,lm,lk,us,rfl,G,YV,Z,e3,B'⟩:=h;refine⟨_,U,U,_,U,bE (λh=>?_) λh=>?_⟩
   ·have e:st=Uh:=V.str.inj (i_ h);refine kG ?_;refine⟨_,U,_,U,_,_,U,U,by rw[e];decide,d,.ref lp,U,by rw[e];exact bD G.ed G.v4,lp,_,U,.inl<|P8.of G.ep,D.places.length,by rw[dc],λp1 n1=>?_⟩;refine⟨p1,_,U,aa,by lia,λl' ZM=>?_⟩;rw[Ez];exact B' l' _ ((ag n1).trans<|ag ZM) (by rw[show bB D st=_ from g_ e];exact aa)
   ·have e:st≠Uh:=λz=>h (b_<|e_ V.str z);refine⟨_,U,U,_,U,bE (λh2=>?_) λh2=>?_⟩
    ·have e2:st=Uk:=V.str.inj (i_ h2);refine⟨_,U,_,U,_,_,U,U,by rw[e2];decide,d,.ref lm,U,by rw[e2];exact bD G.ed G.v5,lm,_,U,.inl<|P8.of G.em,D.marks.length,by rw[dc],λp1 n1=>?_⟩;refine⟨p1,_,U,aa,by lia,λl' ZM=>?_⟩;rw[Ez];exact B' l' _ ((ag n1).trans<|ag ZM) (by rw[show bB D st=_ from(f_ e).trans (g_ e2)];exact aa)
    ·have e2:st≠Uk:=λz=>h2 (b_<|e_ V.str z);exact B' ls _ (P4.refl _) (by rw[show bB D st=_ from(f_ e).trans (f_ e2)];exact e3))<|ai<|i6 (i:=2) QD.nd U (Or.inr U)<|gu (N':=[UR,Ur,"_law_some"]) (ix:=[none,some 2,some 5]) (sc0:=aj mj) (N:=[Ug,Uf,Ur,Ux,Uy,"_law_some"]) U zk (fm U B.range<|aV<|az gC (aC aT (by rfl) B.len MG<|aV<|pv 2)<|aC aT (by rfl) B.len MG<|aV<|pv 5) (λ_ _ _ _ _=>(gZ (i:=0) Lp)) (λ_ _ _ _ _=>eM) λ_ _ _ _ _=>(az (uw (K:=K) U) (fw (tq (K:=K) U) (pv 1)<|az pV (pv 0)<|aC (tu (K:=K) U) (by rfl) B.len MG<|aV<|pv 2)<|aw<|aV<|fw (tq (K:=K) U) (pv 2)<|az ft (pv 0)<|aC (tu (K:=K) U) (by rfl) B.len MG<|aV<|pv 2))))<|ai<|ao<|pv 2)),?_⟩
  refine⟨Qa,λt0 ek=>⟨Qa,λl0 eb=>?_⟩⟩;generalize I:aB H t0 _=H0 at*;have s0:=(nw ek I).1;have ec:=(nw ek I).2;clear I;generalize I:aB H0 l0 _=H1;have eh:=(nw eb I).1;have er:=(nw eb I).2;clear I;have s1:=s0.trans eh;obtain⟨fu,Xa,Wn⟩:=WP;have XI:=Wn.length;refine⟨_,U,R,U,⟨_,P8.of<|s1 _ _ Xa⟩,?_⟩;refine jC (K:=K) (a:=R) (xs:=fu) (λi X Y=>∃(v3 v4 v5:Option V)(l:Vr)(M:VA),X=[some<|.ref d,some<|.ref R,some<|.ref l,v3,v4,v5]/\P4 H Y/\Y l=some (.lst M)/\Paired (Ri Y) M (i3 D<|r.take i)/\(i3 D<|r.take i).length<=4^i/\∀a∈i3 D (r.take i),a.length<=i) ⟨_,_,_,l0,_,U,s1,er,.cons ⟨t0,U,eh _ _ ec⟩ .nil,Ml 1,λa ha=>by rw[MJ.mp ha];exact MR _⟩ (λi X Y _ I=>by obtain⟨_,_,_,_,_,_,s',_⟩:=I;exact P8.of (s' _ _ Xa)) ?_ ?_
  ·intro i u X H2 YS z;obtain⟨v3,v4,v5,l,M,rfl,C,el,WK,hsz,X'⟩:=z;obtain⟨O,et,pf,rfl,Wa⟩:=fh Wn YS;have eS:i<r.length:=(Mc.mp et).1;refine⟨pf,_,U,P5.of<|C _ _ Wa,U,_,_,U,_,_,U,U,?_⟩;refine yu (t:=uG _ _) λD1 N1=>?_;refine put λD2 N=>?_;refine⟨Qa,λls eg=>?_⟩;generalize I:aB H2 ls _=H3;have s3:=(nw eg I).1;have e3:=(nw eg I).2;clear I;refine N _ _ ?_;clear N D2;refine put λD2 N=>?_;have G:=hV.same (C.trans s3);refine⟨d,R,l,.str O.1,O.2,ls,D,gt,j,lp,lm,lk,us,U,G,YV,Z,e3,λZf H4 s4 e4=>?_⟩;refine N _ _ ?_;clear N D2;have es:=bq (λ_ _ h=>Ri.kt (ak<|s3.trans s4) h) WK;have ee:=(s3.trans s4) _ _ el;have ev:=WK.length;have ez:4^i<=4^2:=MH zd (by lia);have ea:=uz YV Z O.2;have eH:(i3 D<|r.take i).length*(bB D O.2).length<=16*4:=Nat.mul_le_mul (by lia) ea;refine⟨_,U,l,_,U,.inl<|P8.of ee,_,U,Zf,_,U,.inl<|P8.of e4,_,_,U,U,.inl ⟨by lia,by lia⟩,(((i3 D<|r.take i).length*(bB D O.2).length:Nat):Int),?_,by lia,by lia,?_⟩
   ·rw[Me,ev];simp
   rw[Nm];refine zL (Pv:=λk p Y=>P4 H4 Y/\Paired (Ri Y) p ((dh (bB D O.2)<|i3 D<|r.take i).take k)) ⟨P4.refl _,.nil⟩ (λk p Y v⟨_,hy⟩=>by
    have:=hy.length;rw[Mp]at this;lia) ?_ ?_
   ·rintro k p H5 v ⟨J,Wq⟩;have L':0<(bB D O.2).length:=by
     cases hn:(bB D O.2).length with
     |zero=>rw[hn]at v;simp at v
     |succ m=>lia
    have e0:((0:Int)+(k:Int))=(k:Int):=by lia
    rw[e0];have hq:k / (bB D O.2).length<(i3 D<|r.take i).length:=Nat.div_lt_of_lt_mul (by rw[Nat.mul_comm];exact v);have ei:k%(bB D O.2).length<(bB D O.2).length:=S6 _ L';obtain⟨ua,ey,ta,rfl,ew⟩:=lN es (Mi hq);have eT:=X' _ (MX hq);refine⟨⟨U,U,trivial⟩,eO ?_⟩;refine⟨_,U,_,U,_,U,Zf,_,U,.inl<|P8.of<|J _ _ e4,_,_,U,U,⟨by rw[Me];lia,by rw[Me];lia⟩,l,_,_,.ref ta,U,U,P8.of<|J _ _ ee,?_,?_⟩
    ·rw[Me,<-Int.natCast_ediv];exact aI ey
    refine⟨_,U,_,U,_,U,Zf,_,U,.inl<|P8.of<|J _ _ e4,_,_,U,U,by rw[Me];lia,Zf,_,_,gV (bB D O.2)[k%(bB D O.2).length],U,U,P8.of<|J _ _ e4,?_,?_⟩
    ·rw[Me,<-Int.natCast_emod];exact aI (by rw[Mt,Mi ei];rfl)
    refine⟨Qa,λt6 n6=>?_⟩;have Xt:=uA (bB D O.2) (i3 D<|r.take i) k v;rw[MI,MI,Mi hq,Mi ei]at Xt;simp only[Option.getD_some]at Xt;have en:=J _ _ ew;generalize (bB D O.2)[k%(bB D O.2).length]=nn at*;generalize (i3 D<|r.take i)[k / (bB D O.2).length]=ac at*;generalize I:aB H5 t6 _=H6;have s6:=(nw n6 I).1;have e6:=(nw n6 I).2;clear I;have B':∀(tv:V)(H7:Hp),P4 H6 H7->Ri H7 tv (ac++[nn])->Nx (λk p Y=>P4 H4 Y/\Paired (Ri Y) p ((dh (bB D O.2)<|i3 D<|r.take i).take k)) ((i3 D<|r.take i).length*(bB D O.2).length) k (p++[tv]) H7:=by
     intro tv H7 s7 h7;refine Nx.mk v ⟨(J.trans s6).trans s7,?_⟩;rw[k_,Xt];exact fF h7 (bq (λ_ _ h=>Ri.kt (ak<|s6.trans s7) h) Wq)
    refine⟨ta,t6,_,_,U,U,P5.of<|s6 _ _ en,P5.of e6,by simp,by rw[Me];show _+1<=_;lia,λh0=>?_,λ_ p7 n7=>?_⟩
    ·have Z9:ac=[]:=by simpa using h0
     exact B' _ _ (P4.refl _) ⟨t6,U,by rw[e6,Z9];rfl⟩
    ·exact B' _ _ (ag n7) ⟨p7,U,by rw[Mq];exact aa⟩
   ·rintro p H5 ⟨J,Wq⟩ L nL;have e:i3 D (r.take<|i+1)=dh (bB D O.2) (i3 D<|r.take i):=by
     rw[k_,et];exact ux _ _ _
    rw[<-pQ,MD]at Wq;have s6:=ag (o:=.lst p) nL;refine N1 _ _ ?_;refine⟨_,_,_,L,p,U,(((C.trans s3).trans s4).trans J).trans s6,aa,?_,?_,?_⟩
    ·rw[e];exact bq (λ_ _ h=>Ri.kt (ak s6) h) Wq
    ·rw[e,NN];have:=lI ea (i3 D<|r.take i);lia
    ·rw[e];exact uy X'
  ·intro X H2 z;obtain⟨v3,v4,v5,l,M,rfl,C,el,WK,hsz,X'⟩:=z;rw[XI,MD]at WK;exact⟨_,U,q l M H2 C el WK⟩
end
structure tW(σ:St)(H:Hp)(e:Ed)(v w:V):Prop where
 h4:σ[4]?=some (some v)
 h6:σ[6]?=some (some w)
 he:QJ H e v
 hw:QJ H (.num 2) w
def tW.same(h:tW o H e v w)(s:P4 H t):tW o t e v w:=⟨h.h4,h.h6,h.he.kt<|ak s,h.hw.kt<|ak s⟩
inductive tE(g:Ed->Ed)(o:St)(H:Hp)(Q:VK):Prop
 |mk(e v w:_):tW o H e v w->(∀u t,P4 H t->QJ t (g e) u->Q u t)->tE g o H Q
inductive JI(gs:List (Ed->Ed))(i:St)(H:Hp)(Q:VA->Hp->Prop):Prop
 |mk(e v w:_):tW i H e v w->(∀o t,P4 H t->Paired (λv x=>QJ t x v) o (gs.map λg=>g e)->Q o t)->JI gs i H Q
inductive LH(gs:List (Ed->Ed))(i:St)(H:Hp)(Q:VK):Prop
 |mk(e v w:_):tW i H e v w->(∀l o t,P4 H t->H l=none->t l=some (.lst o)->Paired (λv x=>QJ t x v) o (gs.map λg=>g e)->Q (.ref l) t)->LH gs i H Q
section
variable{X:Cx}{a b:Expr}{i:List Expr}
def e4(h:PE X a (kB 4)):PE X a (tE λe=>e):=pz h λ_ H _⟨_,v,_,W,q⟩=>⟨v,W.h4,q v H (P4.refl H) W.he⟩
def e6(h:PE X a (kB 6)):PE X a (tE λ_=>.num 2):=pz h λ_ H _⟨_,_,w,W,q⟩=>⟨w,W.h6,q w H (P4.refl H) W.hw⟩
def e2(O:PE X a (tE f))(I:PE X b (tE g))(D:starEach [.Constant (.str o) j r,a,b] X.env=(false,eval (.Constant (.str o) j r) X.env)::starEach [a,b] X.env:=by rfl)(L:starEach [a,b] X.env=(false,eval a X.env)::starEach [b] X.env:=by rfl)
  (Y:starEach [b] X.env=(false,eval b X.env)::starEach [] X.env:=by rfl):PE X (.Tuple [.Constant (.str o) j r,a,b] c p) (tE λe=>.two o (f e)<|g e):=
 pz (aw<|be ah (be O (aV I Y) L) D) λ_ _ _⟨e,v,w,W,q⟩=>⟨e,v,w,W,λu G z d=>⟨e,v,w,W.same z,λy J k2 m=>⟨Qa,λt n=>
  have s:=ag (o:=.tup [.str o,u,y]) n
  q _ _ ((z.trans k2).trans s) ⟨t,u,y,U,aa,d.kt<|ak<|k2.trans s,m.kt<|ak s⟩⟩⟩⟩
def e1(z:PE X a (tE f))(I:starEach [.Constant (.str "cell") j r,a] X.env=(false,eval (.Constant (.str "cell") j r) X.env)::starEach [a] X.env:=by rfl)(D:starEach [a] X.env=(false,eval a X.env)::starEach [] X.env:=by rfl):
  PE X (.Tuple [.Constant (.str "cell") j r,a] c m) (tE λe=>.cell<|f e):=
 pz (aw<|be ah (aV z D) I) λ_ _ _⟨e,v,w,W,q⟩=>⟨e,v,w,W,λu L O d=>⟨Qa,λt n=>
  have s:=ag (o:=.tup [.str "cell",u]) n
  q _ _ (O.trans s) ⟨t,u,U,aa,d.kt<|ak s⟩⟩⟩
def FB{t r:TA}(h:PA X i t)(f:∀o H Q,r o H Q->t o H Q):PA X i r:=⟨λz e s o H Q I q=>h z e s o H Q I<|f o H Q q⟩
def Ke:PA X [] (JI []):=FB bN λ_ H _⟨_,_,_,_,q⟩=>q [] H (P4.refl H) .nil
def wE(I:PE X a (tE g))(hr:PA X i (JI gs))(D:starEach (a::i) X.env=(false,eval a X.env)::starEach i X.env:=by rfl):PA X (a::i) (JI (g::gs)):=
 FB (be I hr D) λ_ _ _⟨e,v,w,W,q⟩=>⟨e,v,w,W,λu L z t=>⟨e,v,w,W.same z,λr O k2 o=>q (u::r) O (z.trans k2)<|.cons (t.kt<|ak k2) o⟩⟩
def x6(h:PA X i (JI gs))(L:gs.length<=sizeLine:=by simp only[List.length];decide):PE X (.List i d) (LH gs):=
 pz (aM h) λ_ _ _⟨e,v,w,W,q⟩=>⟨e,v,w,W,λr D O t=>⟨by have:=lF t;rw[Me]at this;lia,λl n=>
  have s:=ag (o:=.lst r) n
  q l r _ (O.trans s) (Classical.byContradiction λz=>by
   obtain⟨o,I⟩:=Option.ne_none_iff_exists'.mp z;rw[O _ _ I]at n;cases n) aa (bq (λ_ _ h=>h.kt<|ak s) t)⟩⟩
end
def Cq(b:Bool)(n:Nat):List Ed:=[.two "&" (.pl b n)<|.num 2,.two ">>" (.pl b n)<|.num 2,.two "<" (.pl b n)<|.num 2,.two "<<" (.num 2)<|.pl b n,.two "+" (.num 2)<|.two "=" (.pl b n)<|.num 2,.cell<|.cell<|.pl b n,.cell<|.two "+" (.pl b n)<|.num 2,.two "-" (.two "^" (.pl b n)<|.pl b n)<|.num 2]
def EA(b:Bool)(n:Nat):List Ed:=[.two "+" (.pl b n)<|.num 2,.cell<|.pl b n,.two "-" (.pl b n)<|.pl b n,.two "<<" (.pl b n)<|.num 2]
def EB(b:Bool)(n:Nat):List Ed:=[.two "+" (.pl b n)<|.num 2,.cell<|.num 2,.two "<<" (.pl b n)<|.num 2]
def wF:∀o∈(["&",">>","<","<<","+","=","-","^"]:Vx),o∈dG:=by decide +kernel
def EC(z:cg r Uh t b n)(q:4<=W):∀e∈Cq b n,aJ W r ms t 2 e/\eW e=false:=by
 have i:2<2^W:=Ms (show 2<2^4 by decide) (MH zd q);have o:=λx h=>wF x h;simp only[Cq,N_,O_];refine⟨⟨?_,?_⟩,⟨?_,?_⟩,⟨?_,?_⟩,⟨?_,?_⟩,⟨?_,?_⟩,⟨?_,?_⟩,⟨?_,?_⟩,⟨?_,?_⟩,λ_ h=>by cases h⟩<;>first|(simp only[aJ];simp only[z,i,and_true,true_and];try first|trivial|exact o _ zk|exact⟨o _ zk,o _ zk⟩)|(simp only[eW,lC,tY,xp];try decide +kernel)
def ED(z:cg r Uh t b n)(q:4<=W):∀e∈EA b n,aJ W r ms t 2 e/\tY e=false:=by
 have i:2<2^W:=Ms (show 2<2^4 by decide) (MH zd q);have o:=λx h=>wF x h;simp only[EA,N_,O_];refine⟨⟨?_,U⟩,⟨?_,U⟩,⟨?_,U⟩,⟨?_,U⟩,λ_ h=>by cases h⟩<;>(simp only[aJ];simp only[z,i,and_true,true_and];try exact o _ zk)
def EE(z:cg r Uh t b n)(q:4<=W):∀e∈EB b n,aJ W r ms t 1 e/\lC e=false:=by
 have i:2<2^W:=Ms (show 2<2^4 by decide) (MH zd q);have o:=λx h=>wF x h;simp only[EB,N_,O_];refine⟨⟨?_,U⟩,⟨?_,U⟩,⟨?_,U⟩,λ_ h=>by cases h⟩<;>(simp only[aJ];simp only[z,i,and_true,true_and];try exact o _ zk)
structure JO(H:Hp)(p:Vr)(ps ms:Vx)(fs:Vz)(sv:V)(b:Bool)(n:Nat)(t1:Vr)(av:V)(t2:Vr)(H':Hp):Prop where
 g:Qg H' p
 k:Ql p H H'
 s:R1 H' b n sv
 o:cg ps Uh fs b n
 e1:H' t1=some (.tup [.str Uh,sv])
 e2:H' t2=some (.tup [.str "number",.int 2])
 a:(ms=[]/\av=.ref t1)\/(ms≠[]/\∃tm ti,av=.ref tm/\H' tm=some (.tup [.str Uk,.ref ti])/\H' ti=some (.tup [.str "is",.int 0]))
def JO.but(h:JO H p m d r sv b n f av v i)(g:Qg e p)(k:Ql p i e):JO H p m d r sv b n f av v e:=
 have t:=bK h.g k
 ⟨g,h.k.trans k,h.s.kt t,h.o,t _ _ h.e1,t _ _ h.e2,h.a.imp id λ⟨x,z,q,a,b,c⟩=>⟨x,z,q,a,t _ _ b,t _ _ c⟩⟩
def JO.same(h:JO H p d r i sv b n m av f e)(s:P4 e t):JO H p d r i sv b n m av f t:=h.but (h.g.same s) (cH s)
def JO.h1(h:JO H p d r i sv b n e av m t):QJ t (.pl b n) (.ref e):=⟨e,sv,U,h.e1,h.s⟩
def JO.h2(h:JO H p d r i sv b n m av e t):QJ t (.num 2) (.ref e):=⟨e,U,h.e2⟩
inductive LJ(H:Hp)(p d o:Vr)(r i:Vx)(t:Vz)(v:St)(e:Hp):Prop
 |mk(sv b n m av f:_):v=[some<|.ref p,some<|.ref d,some<|.ref o,some sv,some<|.ref m,some av,some<|.ref f,none,none,none]->JO H p r i t sv b n m av f e->LJ H p d o r i t v e
inductive LK(H:Hp)(p d i:Vr)(m r:Vx)(o:Vz)(O:St)(t:Hp):Prop
 |mk(sv b n f av j lv q:_):O=[some<|.ref p,some<|.ref d,some<|.ref i,some sv,some<|.ref f,some av,some<|.ref j,some<|.ref lv,none,none]->JO H p m r o sv b n f av j t->p≠lv->t lv=some (.lst q)->Paired (λv e=>QJ t e v) q (Cq b n)->LK H p d i m r o O t
inductive Kf(H:Hp)(p d o:Vr)(r i:Vx)(t:Vz)(v:St)(e:Hp):Prop
 |mk(sv b n m av f:_)(v7 v8:V):v=[some<|.ref p,some<|.ref d,some<|.ref o,some sv,some<|.ref m,some av,some<|.ref f,some v7,some v8,none]->JO H p r i t sv b n m av f e->Kf H p d o r i t v e
inductive Cr(vs:VA)(H:Hp)(Q:VK)(m:XK):Prop
 |mk(p d o W r i t:_):vs=[.ref p,.ref d,.ref o]->Lx H p d o W r i t->(∀v e g,Qg e p->Ql p H e->Qq e g v->gf W r i t 2 g->lR g=false->Q v e)->Cr vs H Q m
section
def QZ:ax [Ue,Ug,Uf,UP,U5,"_law_aim","_law_two","_law_values",UK,"_law_odds"] [Ue,Ug,Uf] (aj z8):=cP zk
def Hv{f:Vr}{fd:Vw}(F:Qj K "_law_odd_set" "_law_odd_set" z8 f fd)(B:Bl mg)(F':Fn P w K mg R "_law_take" 1 [Ue,Uw] dE)(SL:Fn P w K mg R "_law_sel" 2 [Ue,Uy,Ug,Uf] jq):P7 P w K mg R ce 3 f fd [Ue,Ug,Uf] Cr:=by
 have ZZ:=QZ
 walk_at "o"
 ·obtain⟨p,d,lf,W,ps,ms,fs,rfl,hL,q⟩:=h;have hu:=eE hr;have sz:(100:Nat)<=sizeLine:=by decide
  refine⟨_,(ae (bP 3 QZ.nd<|ap SL hr U<|jF (pv 0) ah (pv 1)<|pv 2)<|ae (bP 4 QZ.nd<|aw<|bj ah<|pv 3)<|ae (bP 5 QZ.nd<|eZ (aM<|bj (pv 4)<|aw<|bj ah<|aw<|bj ah af)<|aU dJ (by rfl) B.int M0<|aV<|uC (QA hr) (bv hu (pv 1) ah)<|aM bN)<|bH (LJ H p d lf ps ms fs) (bP 6 QZ.nd<|aw<|bj ah af)<|ae (bP 7 QZ.nd<|x6<|wE (e2 (e4<|pv 4)<|e6<|pv 6)<|wE (e2 (e4<|pv 4)<|e6<|pv 6)<|wE (e2 (e4<|pv 4)<|e6<|pv 6)<|wE (e2 (e6<|pv 6)<|e4<|pv 4)<|wE (e2 (e6<|pv 6)<|e2 (e4<|pv 4)<|e6<|pv 6) Ke)<|bH (LK H p d lf ps ms fs) (bP 7 QZ.nd<|az eK (pv 7)<|x6<|wE (e1<|e1<|e4<|pv 4)<|wE (e1<|e2 (e4<|pv 4)<|e6<|pv 6)<|wE (e2 (e2 (e4<|pv 4)<|e4<|pv 4)<|e6<|pv 6) Ke)<|ae (bP 8 QZ.nd<|ap F' hr.m U<|bj (pv 0) af)<|ae (aP (bY eR (pv 8) af) (ai<|ao<|eZ (aM<|bj (aw<|du ah (pv 3)<|eZ (pv 7)<|pv 8)<|aw<|du ah (pv 6)<|eZ (pv 7)<|pv 8)<|ap F' hr.m U<|bj (pv 0) af) ay)<|ae (aP (c6 (λσ H'=>Kf H p d lf ps ms fs σ H'/\ms≠[]) (Kf H p d lf ps ms fs)<|PW.pt<|bW (bY aR (pv 8) af)<|bG<|bY (QA hr) (pv 5)<|pv 4) (ae (bP 9 QZ.nd<|x6<|wE (e2 (e4<|pv 4)<|e6<|pv 6)<|wE (e1<|e4<|pv 4)<|wE (e2 (e4<|pv 4)<|e4<|pv 4)<|wE (e2 (e4<|pv 4)<|e6<|pv 6) Ke)<|ai<|ao<|az lW (pv 5)<|aw<|aV<|eZ (pv 9)<|ap F' hr.m U<|bj (pv 0) af) ay)<|ai<|ao<|aw<|du ah (eZ (x6<|wE (e2 (e4<|pv 4)<|e6<|pv 6)<|wE (e1<|e6<|pv 6)<|wE (e2 (e4<|pv 4)<|e6<|pv 6) Ke)<|ap F' hr.m U<|bj (pv 0) af)<|pv 4),_,U,_,U,_,U,p,Uh,d,lf,W,ps,ms,fs,U,hL.g,hL.t,hL.f,hL.f3,.inl U,by rw[ci];exact hL.p1,by rw[ci];exact hL.p10,λsv H1 b n g1 b1 eS hs=>?_⟩;rw[ci]at hs;refine⟨_,U,Qa,λv e0=>?_⟩;generalize D:aB H1 v _=M;have s2:=(nw e0 D).1;have e1:=(nw e0 D).2;clear D;have er:=eS.kt (ak s2);have g2:=g1.same s2;have b2:=b1.same s2;refine⟨_,U,Qa,λO e3=>⟨Qa,λI e5=>⟨Qa,λla eF=>?_⟩⟩⟩;have s3:=ag (o:=.tup [.str "is",.int 0]) e3;have ei:(aB M O<|.tup [.str "is",.int 0]) O=some (.tup [.str "is",.int 0]):=aa;generalize aB M O (.tup [V.str "is",.int 0])=X at*;have s4:=ag (o:=.tup [.str Uk,.ref O]) e5;have em:(aB X I<|.tup [.str Uk,.ref O]) I=some (.tup [.str Uk,.ref O]):=aa;generalize aB X I (.tup [V.str Uk,.ref O])=H4 at*;have s5:=ag (o:=.lst [.ref v,.ref I]) eF;have ea:(aB H4 la<|.lst [.ref v,.ref I]) la=some (.lst [.ref v,.ref I]):=aa;generalize aB H4 la (.lst [V.ref v,.ref I])=H5 at*;have ZH:=(s3.trans s4).trans s5;have L5:=hL.but (g2.same ZH) (b2.same ZH);obtain⟨kvs,lp,lm,a1,a2,a3,a4,a5,a6⟩:=id L5.t;refine⟨_,U,d,_,U,bD a1 a4,Qa,λle WC=>?_⟩;generalize D:aB H5 le _=H6;have s6:=(nw WC D).1;have e6:=(nw WC D).2;clear D;refine mw (λz hz=>(hL.mn z hz).1) (s6 _ _ a6) e6 (.inr ⟨_,U,?_⟩);have e9:=ZH.trans s6;obtain⟨Z,ez,ek⟩:∃Z,oH ([.ref v,.ref I]:VA) (if(!decide (ms=[]))=true then 1 else 0)=some Z/\((ms=[]/\Z=.ref v)\/(ms≠[]/\∃I O,Z=.ref I/\H6 I=some (.tup [.str Uk,.ref O])/\H6 O=some (.tup [.str "is",.int 0]))):=by
   by_cases hm:ms=[]
   ·exact⟨.ref v,by rw[b_ hm];exact aI (j:=0) U,.inl ⟨hm,U⟩⟩
   ·exact⟨.ref I,by rw[c_ hm];exact aI (j:=1) U,.inr ⟨hm,I,O,U,(s5.trans s6) _ _ em,((s4.trans s5).trans s6) _ _ ei⟩⟩
  refine⟨la,_,_,_,U,U,P8.of<|s6 _ _ ea,ez,?_,?_⟩;rotate_left
  ·refine⟨Qa,λN tn=>?_⟩;have G:=ag (o:=.tup [.str "number",.int 2]) tn;have es:=e9.trans G;exact⟨sv,b,n,v,Z,N,U,⟨g2.same es,b2.same es,er.kt<|ak es,hs,es _ _ e1,aa,ek.imp id λ⟨x,I,O,a,b,c⟩=>⟨x,I,O,a,G _ _ b,G _ _ c⟩⟩⟩
  clear ek ez e9 e6 s6 WC a1 a2 a3 a4 a5 a6 L5 ZH ea s5 eF em s4 e5 ei s3 e3 er e1 s2 e0 g2 b2 hs eS b1 g1;intro σ H1 z;obtain⟨sv,b,n,v,Z,N,rfl,J⟩:=z;refine⟨.pl b n,_,_,⟨U,U,J.h1,J.h2⟩,λl1 eh M k1 _ ee P1=>⟨?_,?_⟩⟩;rotate_left
  ·refine⟨_,U,.pl b n,_,_,⟨U,U,J.h1.kt<|ak k1,J.h2.kt<|ak k1⟩,λl2 WJ X k2 _ tt P2=>?_⟩;have hl:eh.length+WJ.length=8:=by rw[lF P1,lF P2];rfl
   refine⟨l1,l2,_,_,U,U,k2 _ _ ee,tt,by rw[hl];decide,λl3 eL=>?_⟩;have s3:=ag (o:=.lst (eh++WJ)) eL;have SS:=(k1.trans k2).trans s3;exact⟨sv,b,n,v,Z,N,l3,_,U,J.same SS,(J.g.same<|k1.trans k2).ne eL,aa,Cj (bq (λ_ _ h=>h.kt<|ak<|k2.trans s3) P1)<|bq (λ_ _ h=>h.kt<|ak s3) P2⟩
  clear J;intro σ H1 z;obtain⟨sv,b,n,v,Z,N,lv,us,rfl,J,e8,eg,Od⟩:=z;refine⟨_,U,p,10,U,J.g,zd,zd,λr M tr g2 b2=>?_⟩;have et:=b2 _ _ eg e8.symm;have ed:=bq (λ_ _ h=>QJ.kt (bK J.g b2) h) Od;have J2:=J.but g2 b2;have ok:=EC (W:=W) (ms:=ms) J.o hL.w4;refine⟨_,U,_,_,U,U,_,U,bE (λh=>?_) λh=>?_⟩
  ·have h8:r<8:=by have:=i_ h;lia
   obtain⟨e,C⟩:∃e,(Cq b n)[r]?=some e:=⟨_,Mi<|show r<(Cq b n).length from h8⟩;obtain⟨u,Zg,X7⟩:=lN ed C;obtain⟨Y,Zd⟩:=ok e (Mr C);refine⟨_,U,_,U,_,U,lv,_,_,_,U,U,P8.of et,aI Zg,Qa,λta na=>?_⟩;generalize D:aB M ta _=X;have sa:=(nw na D).1;have ea:=(nw na D).2;clear D;refine⟨_,U,_,U,_,U,lv,_,_,_,U,U,P8.of<|sa _ _ et,aI Zg,Qa,λtb nb=>?_⟩;generalize D:aB X tb _=H4;have sb:=(nw nb D).1;have eb:=(nw nb D).2;clear D;refine⟨Qa,λlb WD=>?_⟩;generalize D:aB H4 lb _=H5;have sc:=(nw WD D).1;have ec:=(nw WD D).2;clear D;have ZH:=(sa.trans sb).trans sc;have J5:=J2.same ZH;have M':p≠lb:=((J2.same<|sa.trans sb).g).ne WD;refine⟨_,U,p,2,U,J5.g,zd,zd,λi H6 hi g6 b6=>?_⟩;have J6:=J5.but g6 b6;have k6:=bK J5.g b6;have eH:=(X7.kt<|ak ZH).kt k6
   match i,hi with
   |0,_=>
    refine⟨lb,_,_,_,U,U,P8.of<|b6 _ _ ec M'.symm,aI (j:=0) U,?_⟩;exact q _ _ (.pl b n e) g6 J6.k ⟨ta,sv,u,U,k6 _ _<|(sb.trans sc) _ _ ea,J6.s,eH⟩ ⟨J.o,Y⟩ Zd
   |1,_=>
    refine⟨lb,_,_,_,U,U,P8.of<|b6 _ _ ec M'.symm,aI (j:=1) U,?_⟩;exact q _ _ (.cell (.num 2) e) g6 J6.k ⟨tb,.ref N,u,U,k6 _ _<|sc _ _ eb,J6.h2,eH⟩ ⟨by simp only[aJ];exact Ms (show 2<2^4 by decide) (MH zd hL.w4),Y⟩ (by show(eW e&&_)=false;rw[Zd];rfl)
  clear ed et Od eg e8 ok;refine⟨?_,?_,?_⟩
  ·rintro X ⟨⟨sv,b,n,v,Z,N,v7,v8,e,L⟩,en⟩;cases e;clear J2 J;rcases L.a with⟨z,_⟩|⟨_,I,O,rfl,YE,el⟩
   ·exact absurd z en
   ·refine⟨.pl b n,_,_,⟨U,U,L.h1,L.h2⟩,λl1 eh H5 kk ey ee ew=>?_⟩;have ev:p≠l1:=L.g.ne ey;have J5:=L.same kk;refine⟨_,U,_,U,_,U,p,4,U,J5.g,zd,zd,λi H6 hi g6 b6=>?_⟩;have k6:=bK J5.g b6;obtain⟨e,C⟩:∃e,(EA b n)[i]?=some e:=⟨_,Mi<|show i<(EA b n).length from hi⟩;obtain⟨u,Zg,X7⟩:=lN ew C;obtain⟨Y,Zd⟩:=ED (W:=W) (ms:=ms) L.o hL.w4 e (Mr C);refine⟨l1,_,_,_,U,U,P8.of<|b6 _ _ ee ev.symm,aI Zg,Qa,λt7 n7=>?_⟩;generalize D:aB H6 t7 _=H7;have G:=(nw n7 D).1;have e7:=(nw n7 D).2;clear D;have eT:=G _ _ (k6 _ _<|kk _ _ YE);refine⟨I,t7,_,_,U,U,P5.of eT,P5.of e7,by simp,Qa,(λz=>nomatch z),λ_ t8 n8=>?_⟩;have s8:=ag (o:=.tup ([.str Uk,.ref O]++[u])) n8;have e':=G.trans s8;have eN:=e' _ _ (k6 _ _<|kk _ _ el);exact q _ _ (.mk false 0 e) ((g6.same G).same s8) (((J5.k.trans b6).same G).same s8) ⟨t8,.ref O,u,U,aa,⟨O,U,eN⟩,(X7.kt k6).kt<|ak e'⟩ ⟨by show 0<ms.length;exact Ng.mpr en,Y⟩ Zd
  ·intro X z;obtain⟨sv,b,n,v,Z,N,v7,v8,e,L⟩:=z;cases e;clear J2 J;refine⟨.pl b n,_,_,⟨U,U,L.h1,L.h2⟩,λl1 eh H5 kk ey ee ew=>?_⟩
   ·have ev:p≠l1:=L.g.ne ey;have J5:=L.same kk;refine⟨_,U,p,3,U,J5.g,zd,zd,λi H6 hi g6 b6=>?_⟩;have k6:=bK J5.g b6;have J6:=J5.but g6 b6;obtain⟨e,C⟩:∃e,(EB b n)[i]?=some e:=⟨_,Mi<|show i<(EB b n).length from hi⟩;obtain⟨u,Zg,X7⟩:=lN ew C;obtain⟨Y,Zd⟩:=EE (W:=W) (ms:=ms) L.o hL.w4 e (Mr C);refine⟨l1,_,_,_,U,U,P8.of<|b6 _ _ ee ev.symm,aI Zg,_,U,Qa,λt7 n7=>?_⟩;have G:=ag (o:=.tup [.str "cell",u,.ref v]) n7;exact q _ _ (.cell e<|.pl b n) (g6.same G) (J6.k.same G) ⟨t7,u,.ref v,U,aa,(X7.kt k6).kt<|ak G,J6.h1.kt<|ak G⟩ ⟨Y,by simp only[aJ];exact L.o⟩ (by show(eW (.pl b n)&&lC e)=false;rw[Zd];exact Bool.and_false _)
  ·have B':∀v8,Kf H p d lf ps ms fs [some<|.ref p,some<|.ref d,some<|.ref lf,some sv,some<|.ref v,some Z,some<|.ref N,some<|.ref lv,some v8,none] M:=λv8=>⟨sv,b,n,v,Z,N,.ref lv,v8,U,J2⟩;refine⟨_,U,U,_,U,bE (λh=>?_) λh=>?_⟩;rotate_left
   ·exact B' _
   have VO:aJ W ps ms fs 0 (.pl b n):=by simp only[aJ];exact J2.o
   have d1:=J2.h1.td VO;rcases J2.a with⟨hm,rfl⟩|⟨en,I,O,rfl,YE,el⟩
   ·refine⟨_,U,_,U,_,_,d1.dt,d1.dt,d1.lay,d1.lay,MP (L_ _ _) (by have:=nX VO;lia),_,U,?_⟩;rw[SeqAt.eqv_refl _ d1.lay];exact cD (B' _)
   ·have hm:QJ M (.mk false 0) (.ref I):=⟨I,.ref O,U,YE,⟨O,U,el⟩⟩;have d2:=hm.td (W:=W) (ps:=ps) (ms:=ms) (fs:=fs) (m:=0) (by simp only[aJ];exact Ng.mpr en);refine⟨_,U,_,U,_,_,d2.dt,d1.dt,d2.lay,d1.lay,MP (L_ _ _) (by have:=nX VO;lia),_,U,?_⟩;have e:PyData.eqv (rW<|.mk false 0) (rW<|.pl b n)=false:=by
     simp only[rW,PyData.eqv,PyData.eqvAll];rw[show((Uk:Str)==Uh)=false from by decide +kernel];rfl
    rw[e];exact kG ⟨B' _,en⟩
end
def JJ:Sd->Str
 |.cell _ _=>"cell"
 |.pl _ _ _=>Uh
 |.mk _ _ _=>Uk
def JK:∀{g:Sd},Qq H g v->∃p r,v=.ref p/\H p=some (.tup (.str (JJ g)::r))
 |.cell _ _,⟨p,u,t,a,b,_⟩=>⟨p,_,a,b⟩
 |.pl _ _ _,⟨p,u,t,a,b,_⟩=>⟨p,_,a,b⟩
 |.mk _ _ _,⟨p,u,t,a,b,_⟩=>⟨p,_,a,b⟩
def Cs(g:Sd):(!decide (V.str (JJ g)=V.str "cell"))=!g.isCell:=by
 cases g with
 |cell a e=>rw[show decide (V.str (JJ<|.cell a e)=V.str "cell")=true from b_ rfl];rfl
 |pl b n e=>rw[show decide (V.str (JJ<|.pl b n e)=V.str "cell")=false from Hq (show(Uh:Str)≠"cell" by decide +kernel)];rfl
 |mk b n e=>rw[show decide (V.str (JJ<|.mk b n e)=V.str "cell")=false from Hq (show(Uk:Str)≠"cell" by decide +kernel)];rfl
inductive pR(m:Nat)(vs:VA)(H:Hp)(Q:VK):Prop
 |mk(p d r W i o t v dd:_)(c:Nat):vs=[.ref p,.ref d,.ref r,v]->Lx H p d r W i o t->RD H dd v->eA W i o t 2 c dd->c<=m->(∀f e WT,Qg e p->Ql p H e->RD e WT f->eA W i o t 2 c WT->lO WT=false->Q f e)->pR m vs H Q
def kq:Nat->Sp
 |0=>li
 |m+1=>λvs H Q _=>pR m vs H Q
def FD(h:Paired R e o)(n:Nat):Paired R (e.take n) (o.take n):=by
 induction h generalizing n with
 |nil=>rw[List.take_nil,List.take_nil];exact .nil
 |cons a t q=>
  cases n with
  |zero=>exact .nil
  |succ n=>exact .cons a (q n)
def JL(h:Paired R e o)(n:Nat):Paired R (e.drop n) (o.drop n):=by
 induction h generalizing n with
 |nil=>rw[List.drop_nil,List.drop_nil];exact .nil
 |cons a t q=>
  cases n with
  |zero=>exact .cons a t
  |succ n=>exact q n
section
def QC:ax [Ue,Ug,Uf,Uu,"_law_arm","_law_bent","_law_odd","_law_sets","_law_at"] [Ue,Ug,Uf,Uu] (aj jK):=cP zk
def JM:([U5]:Vx).Nodup:=by decide +kernel
def iU{f:Vr}{fd:Vw}(F:Qj K "_law_spoilt" "_law_spoilt" jK f fd)(B:Bl mg)(F':Fn P w K mg C "_law_take" 1 [Ue,Uw] dE)(OS:Fn P w K mg C "_law_odd_set" 3 [Ue,Ug,Uf] Cr)(SP:Fn P w K mg C "_law_spoilt" n [Ue,Ug,Uf,Uu] (kq m))(hn:3<=n):P7 P w K mg C ce (n+1) f fd [Ue,Ug,Uf,Uu] (kq<|m+1):=by
 have ZZ:=QC
 walk_at "o"
 ·obtain⟨p,d,lf,W,ps,ms,fs,v,dd,c,rfl,hL,hv,hd,eS,q⟩:=h;have N8:P9 1 _:=hr.mono (by lia);have V':P9 3 _:=hr.mono hn;have sz:(100:Nat)<=sizeLine:=by decide
  refine⟨_,(ae (aP (bY aR (cB (pv 3) af) ah) (ae (bP 4 QC.nd<|az bM af<|ap F' N8 U<|bj (pv 0) af)<|ae (bP 5 QC.nd<|ap SP hr U<|jF (pv 0) (pv 1) (pv 2)<|cB (pv 3)<|pv 4)<|ai<|ao<|az lW (az lW (cI zD (pv 3) fP<|cz<|pv 4)<|aw<|aV<|pv 5)<|cI zD (pv 3) (cz<|az bM (pv 4) af) fP) ay)<|ae (bP 6 QC.nd<|ap OS V' U<|du (pv 0) (pv 1)<|pv 2)<|ae (bP 7 QC.nd<|cI iC (gu (N':=[U5]) (ix:=[none]) (sc0:=aj jK) (N:=[Ue,Ug,Uf,Uu,"_law_arm","_law_bent","_law_odd","_law_sets","_law_at"]) U zk (hI<|cB (pv 3) af) (λ_ _ _ _ _=>(gZ (i:=0) JM)) (λ_ _ _ _ _=>(ie<|bY mP (fw (jP (K:=K) U) (pv 0) af) ah)) λ_ _ _ _ _=>(pv 0)) fP<|cz af)<|ae (bP 8 QC.nd<|ap F' N8 U<|bj (pv 0)<|az bM (aC aT (by rfl) B.len MG<|aV<|pv 7) af)<|ai<|ao<|aw<|du ah (aU bQ (by rfl) B.tuple cu<|aV<|az eK (az eK (cI iC (pv 7) fP<|cz<|pv 8)<|aM<|aV<|pv 6)<|cI iC (pv 7) (cz<|pv 8) fP)<|cB (pv 3) af),?_⟩;cases dd with
  |ite t y n=>
   cases c with
   |zero=>simp[eA]at hd
   |succ c=>
   cases m with
   |zero=>lia
   |succ m=>
   obtain⟨Z,u,a,b,rfl,XG,ht,hy,hn⟩:=hv;obtain⟨YT,ZR,W'⟩:=hd;refine IH λD1 _ R=>?_;refine⟨_,U,Z,_,_,_,U,U,P5.of XG,aZ,U,_,U,bx (b_ U) ?_⟩;refine put λD N=>?_;refine⟨_,U,p,2,U,hL.g,zd,zd,λr H1 N9 g1 b1=>?_⟩;have L1:=hL.but g1 b1;have Y:=bK hL.g b1;have Xe:=Y _ _ XG;refine⟨_,_,U,U,?_⟩;refine N _ _ ?_;clear N D;refine put λD N=>?_
   match r,N9 with
   |0,_=>
    refine⟨_,U,_,U,_,U,_,U,_,U,Z,_,_,_,U,U,P5.of Xe,iW,p,d,lf,W,ps,ms,fs,a,y,c,U,L1,hy.kt Y,ZR,by lia,λv' H2 y' g2 b2 YC ed K'=>?_⟩;refine N _ _ ?_;clear N D;have k2:=bK g1 b2;have Ym:=k2 _ _ Xe;refine⟨_,U,_,U,(2:Int),U,Z,_,U,P5.of Ym,(by show¬(HT.sIx 4 0 none=0/\HT.sIx 4 4 (some 2)=4);decide),λt3 n3=>?_⟩;have s3:=ag (o:=.tup [.str Vf,u]) n3;have e3:(aB H2 t3<|.tup [.str Vf,u]) t3=some (.tup [.str Vf,u]):=aa;refine⟨_,U,Qa,λt4 n4=>?_⟩;have s4:=ag (o:=.tup [v']) n4;refine⟨t3,t4,_,_,U,U,P5.of<|s4 _ _ e3,P5.of aa,by simp,Qa,(λz=>nomatch z),λ_ t5 n5=>?_⟩;have s5:=ag (o:=.tup ([.str Vf,u]++[v'])) n5;refine⟨_,U,_,U,_,_,U,U,(3:Int),U,Z,_,U,P5.of<|s5 _ _<|s4 _ _<|s3 _ _ Ym,(by show¬(HT.sIx 4 0 (some 3)=0/\HT.sIx 4 4 none=4);decide),λt6 n6=>?_⟩;have s6:=ag (o:=.tup [b]) n6;refine⟨t5,t6,_,_,U,U,P5.of<|s6 _ _ aa,P5.of aa,by simp,Qa,(λz=>nomatch z),λ_ t7 n7=>?_⟩;have s7:=ag (o:=.tup (([.str Vf,u]++[v'])++[b])) n7;have ss:=(((s3.trans s4).trans s5).trans s6).trans s7;have J:=ak ss;refine R _ _ ?_;refine q _ _ (.ite t y' n) (g2.same ss) ((b1.trans b2).same ss) ⟨t7,u,v',b,U,aa,((ht.kt Y).kt k2).kt J,YC.kt J,((hn.kt Y).kt k2).kt J⟩ ⟨YT,ed,W'⟩ ?_;show(lO y'&&lO n)=false;rw[K'];rfl
   |1,_=>
    refine⟨_,U,_,U,_,U,_,U,_,U,Z,_,_,_,U,U,P5.of Xe,Dz,p,d,lf,W,ps,ms,fs,b,n,c,U,L1,hn.kt Y,W',by lia,λv' H2 n' g2 b2 YC es K'=>?_⟩;refine N _ _ ?_;clear N D;have k2:=bK g1 b2;have Ym:=k2 _ _ Xe;refine⟨_,U,_,U,(3:Int),U,Z,_,U,P5.of Ym,(by show¬(HT.sIx 4 0 none=0/\HT.sIx 4 4 (some 3)=4);decide),λt3 n3=>?_⟩;have s3:=ag (o:=.tup [.str Vf,u,a]) n3;have e3:(aB H2 t3<|.tup [.str Vf,u,a]) t3=some (.tup [.str Vf,u,a]):=aa;refine⟨_,U,Qa,λt4 n4=>?_⟩;have s4:=ag (o:=.tup [v']) n4;refine⟨t3,t4,_,_,U,U,P5.of<|s4 _ _ e3,P5.of aa,by simp,Qa,(λz=>nomatch z),λ_ t5 n5=>?_⟩;have s5:=ag (o:=.tup ([.str Vf,u,a]++[v'])) n5;refine⟨_,U,_,U,_,_,U,U,(4:Int),U,Z,_,U,P5.of<|s5 _ _<|s4 _ _<|s3 _ _ Ym,(by show¬(HT.sIx 4 0 (some 4)=0/\HT.sIx 4 4 none=4);decide),λt6 n6=>?_⟩;have s6:=ag (o:=.tup []) n6;have ss:=((s3.trans s4).trans s5).trans s6;have J:=ak ss;refine⟨t5,t6,_,_,U,U,P5.of<|s6 _ _ aa,P5.of aa,by simp,Qa,λ_=>?_,(λz=>absurd U z)⟩;refine R _ _ ?_;refine q _ _ (.ite t y n') (g2.same ss) ((b1.trans b2).same ss) ⟨t5,u,a,v',U,s6 _ _ aa,((ht.kt Y).kt k2).kt J,((hy.kt Y).kt k2).kt J,YC.kt J⟩ ⟨YT,ZR,es⟩ ?_;show(lO y&&lO n')=false;rw[K'];exact Bool.and_false _
  |leaf s e=>
   obtain⟨Z,ts,us,ve,rfl,XG,WK,Od,ez⟩:=hv;have Wb:s.length<=4/\(s.filter Sd.isCell).length<=1/\(∀g∈s,gf W ps ms fs 2 g)/\nZ fs e:=by cases c<;>exact hd
   obtain⟨eH,_,WL,YG⟩:=Wb;refine put λD N=>?_;refine⟨_,U,Z,_,_,_,U,U,P5.of XG,aZ,U,_,U,aY (Hq zk) ?_⟩;refine N _ _ ?_;clear N D;refine put λD N=>?_;refine⟨_,U,_,U,_,U,p,d,lf,W,ps,ms,fs,U,hL,λvo H1 go g1 b1 eT ek eg=>?_⟩;refine N _ _ ?_;clear N D;refine put λD N=>?_;have Y:=bK hL.g b1;have Xe:=Y _ _ XG;have et:=Y _ _ WK;have er:=bq (R:=λv g=>Qq H g v) (λ_ _ h=>Qq.kt Y h) Od;refine⟨_,U,Z,_,_,_,U,U,P5.of Xe,cF,ts,U,⟨_,P5.of et⟩,?_⟩;refine uV (K:=K) (a:=ts) (xs:=us) (λi M H'=>P4 H1 H'/\M.length<=i/\Paired (λv g=>Qq H1 g v) M ((s.take i).filter λg=>!g.isCell)) ⟨P4.refl _,Ml _,.nil⟩ (λi M H' hi⟨s2,hy,_⟩=>⟨P5.of<|s2 _ _ et,by have:=Od.length;lia⟩) ?_ ?_
   ·rintro i x M H2 hx ⟨s2,hy,Wq⟩;obtain⟨gd,ZW,hv⟩:=fh er hx;obtain⟨p2,r2,rfl,W5⟩:=JK hv;refine⟨trivial,_,U,p2,_,_,_,U,U,P5.of<|s2 _ _ W5,aZ,U,_,U,?_⟩;have YF:=(Mc.mp hx).1;by_cases hc:gd.isCell=true
    ·refine aY (by rw[Cs,hc];rfl) (Nx.mk YF ⟨s2,by lia,?_⟩);rw[k_,ZW,Nr];have:(some gd).toList.filter (λg=>!g.isCell)=[]:=by simp[hc]
     rw[this,MM];exact Wq
    ·have Z5:gd.isCell=false:=Nc.mpr hc;refine bx (by rw[Cs,Z5];rfl) ⟨_,U,Nx.mk YF ⟨s2,by rw[Md];show _+1<=_;lia,?_⟩⟩;rw[k_,ZW,Nr];have:(some gd).toList.filter (λg=>!g.isCell)=[gd]:=by simp[Z5]
     rw[this];exact fF (R:=λv g=>Qq H1 g v) hv Wq
   ·rintro M H2 ⟨s2,hy,Wq⟩ L nL;have hl:=Od.length;rw[hl,MD]at Wq;generalize O:aB H2 L _=H3;have sL:=(nw nL O).1;have eL:H3 L=some (.lst M):=(nw nL O).2;clear O;refine⟨(3:Int),U,L,_,U,P8.of eL,λl3 n3=>?_⟩;rw[show i8 M none (some 3)=M.take 3 from vX M 3];have ei:=FD Wq 3;have eF:(M.take 3).length<=3:=by rw[Mp];lia
    have XV:((s.filter λg=>!g.isCell).take 3).filter Sd.isCell=[]:=by
     rw[S3];intro g X;have:=(NB.mp<|M6 X).2;simpa using this
    have ee:∀g∈(s.filter λg=>!g.isCell).take 3,gf W ps ms fs 2 g:=λg X=>WL g (NB.mp<|M6 X).1;generalize M.take 3=j at*;generalize (s.filter λg=>!g.isCell).take 3=G at*;have e0:=ei.length;generalize O:aB H3 l3 _=H4;have s3:=(nw n3 O).1;have e3:H4 l3=some (.lst j):=(nw n3 O).2;clear O;have eN:p≠l3:=((g1.same s2).same sL).ne n3;have Zb:=(s2.trans sL).trans s3;have g4:=g1.same Zb;refine N _ _ ?_;clear N D;refine put λD N=>?_;refine⟨_,U,_,U,l3,_,U,.inl<|P8.of e3,_,_,U,U,p,j.length+1,U,g4,by lia,by lia,λI H5 Xt g5 b5=>?_⟩;refine N _ _ ?_;clear N D;have k5:=bK g4 b5;have e5:=b5 _ _ e3 eN.symm;have ec:Qi H1 H5:=λb xs e=>k5 _ _ (Zb _ _ e);have eh:=ec _ _ Xe;have ev:=(b1.same Zb).trans b5;refine⟨_,U,_,U,(I:Int),U,l3,_,U,P8.of e5,λl6 n6=>?_⟩;rw[vX];generalize O:aB H5 l6 _=H6;have s6:=(nw n6 O).1;have e6:H6 l6=some (.lst<|j.take I):=(nw n6 O).2;clear O;refine⟨_,U,Qa,λl7 n7=>?_⟩;generalize O:aB H6 l7 _=H7;have s7:=(nw n7 O).1;have e7:=(nw n7 O).2;clear O;have t1:(j.take I).length<=3:=by rw[Mp];lia
    have t2:(j.drop I).length<=3:=by rw[MY];lia
    refine⟨l6,l7,_,_,U,U,s7 _ _ e6,e7,by show(j.take I).length+1<=_;lia,λl8 n8=>?_⟩;generalize O:aB H7 l8 _=H8;have s8:=(nw n8 O).1;have e8:H8 l8=some (.lst<|j.take I++[vo]):=(nw n8 O).2;clear O;have ew:=(s6.trans s7).trans s8;refine⟨_,U,_,U,(I:Int),U,l3,_,U,P8.of<|ew _ _ e5,λl9 n9=>?_⟩;rw[GM];generalize O:aB H8 l9 _=H9;have s9:=(nw n9 O).1;have e9:H9 l9=some (.lst<|j.drop I):=(nw n9 O).2;clear O;refine⟨l8,l9,_,_,U,U,s9 _ _ e8,e9,by rw[Md];show _+1+_<=_;lia,λla na=>?_⟩;generalize O:aB H9 la _=Ha;have sa:=(nw na O).1;have ea:Ha la=some (.lst<|(j.take I++[vo])++j.drop I):=(nw na O).2;clear O;refine⟨la,_,U,.inl ⟨P8.of ea,λtb nb=>?_⟩⟩;generalize O:aB Ha tb _=Hb;have sb:=(nw nb O).1;have eb:Hb tb=some (.tup<|(j.take I++[vo])++j.drop I):=(nw nb O).2;clear O;have ey:=((ew.trans s9).trans sa).trans sb;refine⟨_,U,Z,_,_,_,U,U,P5.of<|ey _ _ eh,iW,Qa,λtc nc=>?_⟩;have sc:=ag (o:=.tup [.str Vk,.ref tb,ve]) nc;have en:=ey.trans sc;have J:Qi H1 (aB Hb tc<|.tup [.str Vk,.ref tb,ve]):=λb xs e=>en _ _ (ec _ _ e);have el:=bq (R:=λv g=>Qq H1 g v) (λ_ _ h=>Qq.kt J h) ei;refine q _ _ (.leaf ((G.take I++[go])++G.drop I) e) (g5.same en) (ev.same en) ⟨tc,tb,_,ve,U,aa,sc _ _ eb,Cj (Cj (FD el I)<|.cons (eT.kt J) .nil)<|JL el I,(ez.kt Y).kt J⟩ ?_ ?_
    ·have:((G.take I++[go])++G.drop I).length<=4/\(((G.take I++[go])++G.drop I).filter Sd.isCell).length<=1/\(∀g∈(G.take I++[go])++G.drop I,gf W ps ms fs 2 g)/\nZ fs e:=by
      refine⟨?_,?_,?_,YG⟩
      ·rw[Md,Md,Mp,MY];show _+1+_<=_;lia
      ·rw[Nr,Nr];have z1:(G.take I).filter Sd.isCell=[]:=by
        rw[S3]at XV⊢;exact λg X=>XV g (M6 X)
       have z2:(G.drop I).filter Sd.isCell=[]:=by
        rw[S3]at XV⊢;exact λg X=>XV g (M_ X)
       rw[z1,z2,NO,MM];exact List.length_filter_le _ _
      ·intro g X;rcases MC.mp X with h|h
       ·rcases MC.mp h with h|h
        ·exact ee g (M6 h)
        ·rw[MJ.mp h];exact ek
       ·exact ee g (M_ h)
     cases c<;>exact this
    ·show((G.take I++[go])++G.drop I).all lR=false;rw[TV,TV];simp[eg]
end
end L3
namespace L2
open PySem
def x9{X:Cx}{params:Arguments}{e:Expr}{o:Scope}{t:Pos}{c P:Vr}{ps fr:Vx}{ix:Vy}{qual:Str}(N:Vx)(sc0:Scope)(L:wv X.base X.mg c P)(hok:kc N sc0 o ps fr ix=true)(z:X.env.code=.ref c:=by rfl)(D:X.env.qual++"<lambda>"=qual:=by rfl)(O:X.N=N:=by rfl)(I:X.env.scope=sc0:=by rfl)(q:defaultsOf params X.env=([],[]):=by rfl):PE X (.Lambda params e o t) (Jy X P qual params e o):=by
 subst O I;exact Hd L z hok D q
end L2
namespace L3
open PySem L2
def RS.kd(h:RS r H u x):∃t z b q,u=.ref t/\H t=some (.tup [.str x.name,.ref z,b])/\H z=some (.lst q)/\Paired (Qp H) q x.fs/\RD H x.dd b:=
 let⟨t,z,b,e,_,o,⟨q,i,O⟩,I⟩:=h
 ⟨t,z,b,q,e,o,i,O,I⟩
def EF(h:Paired (RS i H) o ks)(x y z:Int):HO.lst o≠qv x y z:=by
 intro e;have q:o=[V.int x,.int y,.int z]:=by
  unfold qv at e;exact HO.lst.inj e
 subst q;cases h with
 |cons h _=>
  obtain⟨t,O,b,e,_⟩:=h;cases e
def Sa.but(h:Sa H d D o e f m r v)(g:Qg H p)(b:Ql p H t):Sa t d D o e f m r v:=
 ⟨b _ _ h.ed (bJ g h.ed λ_ _ _ z=>by cases z),h.v1,h.v2,h.v3,h.v4,h.v5,h.v6,h.v7,b _ _ h.ep<|bJ g h.ep<|cM _,b _ _ h.em<|bJ g h.em<|cM _,b _ _ h.ek<|bJ g h.ek<|EF h.ks,bq (λ_ _ i=>RS.kp (bK g b) (wb g b) i) h.ks⟩
def R3(H:Hp)(z:V):Prop:=eU z=true\/∃a,z=.ref a/\((∃n,Db n=true/\(H a=some (.lst [.str n])\/H a=some (.tup [.str n])))\/∃e,H a=some (.dK e))
def R3.same(h:R3 H z)(s:P4 H i):R3 i z:=by
 rcases h with h|⟨a,e,⟨n,o,h|h⟩|⟨t,h⟩⟩
 ·exact .inl h
 ·exact .inr ⟨a,e,.inl ⟨n,o,.inl<|s _ _ h⟩⟩
 ·exact .inr ⟨a,e,.inl ⟨n,o,.inr<|s _ _ h⟩⟩
 ·exact .inr ⟨a,e,.inr ⟨t,s _ _ h⟩⟩
def Ct(h:eU z=true):zj z z=true/\Lo K H z:=by
 cases z with
 |non=>exact⟨U,_,_,.non,U⟩
 |bl b=>exact⟨U,_,_,.bl b,U⟩
 |int i=>exact⟨U,_,_,.int i,U⟩
 |str x=>exact⟨U,_,_,.str x,U⟩
 |_=>exact absurd (show false=true from h) MA
def ya(o:Db n=true):PyData.canLayAll0 [.str n]=true:=by
 have q:(PyData.str n).canLay0=true:=o;simp only[PyData.canLayAll0,q,Tl]
def R3.thing(h:R3 H z):Fx K H z:=by
 intro q s;rcases h.same s with h|⟨a,rfl,⟨n,o,h|h⟩|⟨e,h⟩⟩
 ·exact⟨.inl (Ct (K:=K) (H:=q) h).1,(Ct h).2⟩
 ·exact⟨.inr (.inl ⟨_,.lst (P8.of h)<|.cons (.str n) .nil,ya o,by simp[PyData.depth,PyData.depthAll]⟩),_,_,.lst h,U⟩
 ·exact⟨.inr (.inl ⟨_,.tup (P5.of h)<|.cons (.str n) .nil,ya o,by simp[PyData.depth,PyData.depthAll]⟩),_,_,.tup h,U⟩
 ·exact⟨.inr<|.inr ⟨a,e,U,h⟩,_,_,.dK h,U⟩
def R3.ref(h:R3 H z)(f:eU z=false):∃a,z=.ref a/\xV K H a:=by
 rcases h with h|⟨a,rfl,⟨n,o,h|h⟩|⟨e,h⟩⟩
 ·rw[h]at f;cases f
 ·exact⟨a,U,.inl ⟨_,P8.of h⟩⟩
 ·exact⟨a,U,.inr<|.inl ⟨_,P5.of h⟩⟩
 ·exact⟨a,U,.inr<|.inr ⟨e,h⟩⟩
abbrev qL:Str:="_law_right.<locals>.<lambda>"
inductive SA(P:Vt)(w:Vu)(K:ZF)(t:Str->Option Vq)(e:Heap)(x:Str)(n:Nat)(o:Vx)(sp:Sp):Prop
 |mk(f i:_):t x=some (.ref f)->PySem.W.keepIn K (.ref f)=true->Qk K i o []->P7 P w K t e (ku P w) n f i o sp->SA P w K t e x n o sp
def SA.calm(h:SA P w K t e x n o sp):Fn P w K t e x n o (λvs H Q _=>sp vs H Q E0):=by obtain⟨f,q,a,b,c,d⟩:=h;exact ⟨f,q,a,b,c,d.calm⟩
section
def JN(n:Nat):∀p∈PySem.cellsFrom n (aj cZ).names [],(PySem.cellsFrom n (aj cZ).names []).lookup p.1=some p.2:=by
 have e:PySem.cellsFrom n (aj cZ).names []=([(Ur,n)]:List (Str×Vr)):=rfl;rw[e];intro p q;have:p=((Ur:Str),n):=by simpa using q
 subst this;rfl
def Cu(q:∀b o,t.lookup b=some o->H7 b=none)(z:P4 (trkL H7 t) H8):P4 H7 (untL H8 t):=λb o e=>by
 rw[bV<|lG q e];exact z _ _ (ck q e)
def yb(h:Qo H T qL)(g:Qg H p)(b:Ql p H o):Qo o T qL:=by
 obtain⟨i,e,O,k⟩:=h;refine⟨i,b _ _ e (bJ g e λ_ _ _ z=>by cases z),O,λt v q=>?_⟩;obtain⟨d,e1,e2⟩:=k t v q;exact⟨d,e1,b _ _ e2<|bJ g e2 λ_ _ _ z=>by cases z⟩
def R3.bt(h:R3 H z)(t:Qo H T qL)(b:Bt T H r):R3 r z:=by
 obtain⟨d,q,_⟩:=t;rcases h with h|⟨a,e,⟨n,o,h|h⟩|⟨i,h⟩⟩
 ·exact .inl h
 ·exact .inr ⟨a,e,.inl ⟨n,o,.inl<|b _ _ h<|gP h q<|by nofun⟩⟩
 ·exact .inr ⟨a,e,.inl ⟨n,o,.inr<|b _ _ h<|gP h q<|by nofun⟩⟩
 ·exact .inr ⟨a,e,.inr ⟨i,b _ _ h<|gP h q<|by nofun⟩⟩
def RB.th(h:RB K H D z)(t:R3 o z):RB K o D z:=by
 rcases h with h|⟨a,rfl,_⟩
 ·exact .inl h
 ·obtain⟨b,e,r⟩:=t.ref (K:=K) rfl;exact .inr ⟨b,e,r⟩
def QK.k2(h:QK C H v D)(t:Qo H T qL)(b:Bt T H o):QK C o v D:=by
 obtain⟨m,q,_⟩:=t;obtain⟨a,z,pp,pm,pn,G,d,e,i,r,O,I,L,Y⟩:=h;have k:Qi H o:=λx f e=>b _ _ e (gP e q<|by nofun);exact⟨a,z,pp,pm,pn,G,d,e,b _ _ i (gP i q<|by nofun),k _ _ r,k _ _ O,k _ _ I,k _ _ L,bq (λ_ _ h=>RL.kt k h) Y⟩
def Cv{m:Str}{L:Sp}
  (Ww:∀v D z H Q E,QK C H v D->Hu K H D z->Qy cK z H E->L [v,z] H Q E) {X:Cx} {σ:St} {O:Hp} {I:List (Vr×Obj)} {f:Vr} {params:Arguments} {t:Scope} {p R p3 p4:Pos} {v z:V} {D:Fm} {Q:VK}
  (L7:xP X O f qL params (.Call (.Name m p) [.Name Ur R,.Name UB p3] [] p4) t) (CO:iN X σ I) (nn:∀b o,I.lookup b=some o->O b=none) (hok:kc X.N X.env.scope t [UB] [Ur] [0]=true) (Y:oB t [UB] [Ur]=true) (hv:σ[0]?=some (some v))
  (W0:∀(r:List (Str×Vr))(pm cd ct:Vq)(M:List Vq),M.length=([UB]:Vx).length->bindArgs (PySem.W.kla_fn "<lambda>" qL params (.Call (.Name m p) [.Name Ur R,.Name UB p3] [] p4) t r pm cd ct) ⟨M,[]⟩=pure (([UB]:Vx).zip M))
  (tv:QK C O v D) (tz:R3 O z) (nz:Hu K O D z) (q:∀H9,P4 O H9->Q (.bl true) H9)
  (ee:∀(c:Vr)(r:List (Str×Vr))(A:Vv)(outer:List Env)(s:Vs)(H:Hp)(E:XK),P9 6 (A.deeper<|rJ qL t s.heap.objs.size f c r)->PE ((Eo P w K mg base (([UB]:Vx)++([Ur]:Vx)) qL t f c r A outer s H E).esc λ_=>E) (.Call (.Name m p) [.Name Ur R,.Name UB p3] [] p4) (ww L [] (λ_=>E)<|dw (kB 1)<|dw (kB 0) oK)) :
  iP P w K mg base cK 7 [.ref f,z] (trkL O I) (λv B=>i0 B I/\Q v (untL B I)) E0:=by
 obtain⟨o,Z,sp,h1,h2,F1,B1,h5⟩:=Hl (P:=P) (w:=w) (K:=K) (mg:=mg) (base:=base) (k:=6) (vC:=[v]) (te:=λE=>ww L [] (λ_=>E)<|dw (kB 1)<|dw (kB 0) oK) L7 CO nn hok Y (λj i h=>by
   cases j with
   |zero=>
    have:i=0:=by simpa using h.symm
    subst this;exact⟨v,U,hv⟩
   | succ j=>simp at h) U W0 ee
 have et:R3 (trkL O I) z:=tz.same λb o e=>ck nn e;refine⟨f,z,o,Z,[UB],sp,U,h1,h2,F1,B1,et.thing,λQ' E' hE=>h5 [z] Q' E' U ?_,λH8 s8=>⟨λb o e=>s8 _ _<|mG e,q _<|Cu nn s8⟩⟩;refine⟨v,U,z,U,Ww v D z O _ _ tv nz λe d H' s' ne xa G=>hE e d (trkL H' I) (λb o J=>?_) ?_ ?_⟩
 ·cases qq:I.lookup b with
  |some o'=>
   rw[mG qq]at J⊢;exact J
  |none=>
   rw[cj qq]at J⊢;exact s' _ _ J
 ·rw[cj<|lG G xa.1];exact ne
 ·exact xa.same λb o e=>ck G e
end
def oD:Option Nat->PyData
 |none=>.none
 |some n=>.int (n:Nat)
def JP(a:List (Option Nat)):PyData:=.tuple (a.map oD)
def Lq(n:Option Nat):Dt K H (gV n) (oD n):=by
 cases n with
 |none=>exact .non
 |some n=>exact .int _
def FE:∀a:List (Option Nat),Qx K H (a.map gV) (a.map oD)
 |[]=>.nil
 |n::a=>.cons (Lq n) (FE a)
def Cw(h:Paired (Ri H) o l):Qx K H o (l.map JP):=by
 induction h with
 |nil=>exact .nil
 |cons a t q=>
  obtain⟨t,rfl,e⟩:=a;exact .cons (.tup (P5.of e)<|FE _) q
def Cy:∀a:List (Option Nat),PyData.canLayAll0 (a.map oD)=true/\PyData.depthAll (a.map oD)<=5
 |[]=>⟨U,by simp[PyData.depthAll]⟩
 |n::a=>by
  have:=Cy a;cases n<;>(simp only[Mz,oD,PyData.canLayAll0,PyData.depthAll,PyData.canLay0,PyData.depth,this.1,Tl,true_and];have:=this.2;lia)
def yc:∀l:List (List<|Option Nat),PyData.canLayAll0 (l.map JP)=true/\PyData.depthAll (l.map JP)<=10
 |[]=>⟨U,by simp[PyData.depthAll]⟩
 |a::l=>by
  have:=yc l;have h:=Cy a;simp only[Mz,JP,PyData.canLayAll0,PyData.depthAll,PyData.canLay0,PyData.depth,this.1,h.1,Tl,true_and];have:=this.2;have:=h.2;lia
def Cz(s:P4 H t)(n:H l=none):P4 H (aB t l o):=λb x e=>by
 rw[al<|au e n];exact s _ _ e
def Hw(K:ZF)(D:Fm)(H:Hp)(z:V):Prop:=(eU z=true/\ic z (am<|D.kinds.map Kn.name)=true)\/(R3 H z/\RB K H D z)
def gA(h:eU z=true):Hw K D H z:=by
 cases e:ic z (am<|D.kinds.map Kn.name)with
 |true=>exact .inl ⟨h,e⟩
 |false=>exact .inr ⟨.inl h,.inl ⟨h,e⟩⟩
def rQ(h:R3 H z)(f:eU z=false):Hw K D H z:=.inr ⟨h,.inr<|h.ref f⟩
inductive EG(C:Vr)(T:Vr)(vs:VA)(H:Hp)(Q:VK)(i:XK):Prop
 |mk(v d VU D o t f m r p fn:_):vs=[v,.ref d,.ref VU]->QK C H v D->Sa H d D o t f m r p->qY D fn o->H VU=some (.lst<|D.kinds.map λx=>V.bl<|lO x.dd)->Qo H T qL->(∀e,Bt T H e->Qo e T qL->Q (.bl true) e)->EG C T vs H Q i
inductive Lr(v:V)(d VU:Vr)(H:Hp)(t:St)(e:Hp):Prop
 |mk(v3 v4 v5 v6 v7 v8 v9:_):t=[some v,some<|.ref d,some<|.ref VU,v3,v4,v5,v6,v7,v8,v9,none,none]->P4 H e->Lr v d VU H t e
inductive LL(v:V)(d VU:Vr)(H:Hp)(D:Fm)(t:St)(e:Hp):Prop
 |mk(v3 v4 v5 v6 v7 v8 v9 ln:_):t=[some v,some<|.ref d,some<|.ref VU,v3,v4,v5,v6,v7,v8,v9,some<|.ref ln,none]->P4 H e->e ln=some (.lst<|am<|D.kinds.map Kn.name)->LL v d VU H D t e
section
abbrev Kg:Vx:=[Ur,Ug,UL,Ux,Uf,Uu,"_law_due","_law_told","_law_turn","_law_chosen",UA,UV]
def JQ{P:List Vq->Prop}(h:∀a,P [a]):∀t:List Vq,t.length=1->P t:=λt e=>by
 obtain⟨a,rfl⟩:=List.length_eq_one_iff.mp e;exact h a
def Rk:ax [Ur,Ug,UL,Ux,Uf,Uu,"_law_due","_law_told","_law_turn","_law_chosen",UA,UV] [Ur,Ug,UL] (aj cZ):=cP zk
def JU:([UB]:Vx).Nodup:=by decide +kernel
def JV{f:Vr}{fd:Vw}(F:Qj K "_law_right" "_law_right" cZ f fd)(hc:fd.code=.ref c)(L:wv r R c T)(B:Bl R)(e0:R "zip"=none)(Tb:Tc K C)(AC:Fn P w K R r "_law_all_chosen" 1 [Ug,Uf] rP)
  (RF:Fn P w K R r "_law_refused" 8 ["_law_ask",UV] (iP P w K R r cK 7)) (IP:SA P w K R r "is_plain" 6 [UQ,Uv] (iS K C cK)) (CH:SA P w K R r "chosen_of" 6 [UQ,Uv] (ko K C cK)) :
  P7 P w K R r ce 9 f fd [Ur,Ug,UL] (EG C T):=by
 refine F.okC hc Rk (λvs H Q E h=>?_) (λA outer s H vs Q E hr h=>?_)
 ·obtain⟨v,d,VU,D,gt,kvs,lp,lm,lk,us,fn,rfl,_⟩:=h;rfl
 ·obtain⟨v,d,VU,D,gt,kvs,lp,lm,lk,us,fn,rfl,hT,hV,hD,K',Y_,q⟩:=h;have hu:=eE hr;have sz:(1000:Nat)<=sizeLine:=by decide
  have eL:P9 8 _:=hr;have ti:=IP.calm;have tt:=CH.calm;obtain⟨fI,tN,mI,kI,bI,FI⟩:=IP;obtain⟨fC,tA,mC,kC,bC,FC⟩:=CH;obtain⟨fr,tS,eH,eS,ev,FR⟩:=RF;refine⟨_,(bH (Lr v d VU H) (cU h_ U (zP U e0<|bj (bv hu (pv 1) ah)<|pv 2) (cA U<|aq (cA U<|aq (eQ 3 Rk.nd)<|aq (eQ 4 Rk.nd)<|aq (eQ 5 Rk.nd) bi)<|aq (eQ 6 Rk.nd) bi)<|ae (bP 7 Rk.nd<|ap ti hr.m U<|bj (pv 0)<|pv 3)<|ae (aP (PW.pt<|fL (dW<|dq<|aC (gF (T:="bool")) (by rfl) B.isinstance c8<|bj (pv 7)<|iZ (by rfl) B.bool gI)<|dU<|bY mP (pv 7)<|pv 6) (ai<|ao gQ) ay)<|ai<|cU h_ U (fm U B.range<|aV af) (eQ 8 Rk.nd)<|ae (bP 9 Rk.nd<|ap tt hr.m U<|bj (pv 0)<|pv 3)<|ae (aP (PW.pt<|fL (dW<|dq<|aC (gF (T:="list")) (by rfl) B.isinstance c8<|bj (pv 9)<|iZ (by rfl) B.list fB)<|dU<|bY (QA hr) (pv 9)<|ap AC hr.m U<|bj (pv 1)<|pv 4) (ai<|ao gQ) ay)<|ai<|aL<|F5 Mw PySem.F.slot_list_clear PySem.F.type_list_clear zH<|pv 9)<|bH (LL v d VU H D) (gv (i:=10) Rk.nd U U (N':=[UB]) (ix:=[none]) (sc0:=aj cZ) (N:=[Ur,Ug,UL,Ux,Uf,Uu,"_law_due","_law_told","_law_turn","_law_chosen",UA,UV]) U zk (cW<|bv hu (pv 1) ah) (λ_ _ _ _ _=>(gZ (i:=0) JU)) (λ_ _ _ _ _=>eM) λ_ _ _ _ _=>(fw (jP (K:=K) U) (pv 0) af))<|ae (cU h_ U (cW<|aM<|be gY<|be af<|be gQ<|be ah<|HK (az aH (eZ (pv 10) af) ah) (aM<|aV<|eZ (pv 10) af) (aw<|aV<|eZ (pv 10) af) m5<|eZ (bv hu (pv 1) ah) af) (eQ 11 Rk.nd)<|ae (aP (PW.pt<|bW (cy (iO dX<|lH hr) (pv 11) (pv 10) U)<|bG<|dW<|dq<|uk FR eL U eH eS ev (λ_=>rfl) (JN _)<|bj (x9 (ps:=[UB]) (fr:=[Ur]) (ix:=[0]) (qual:=qL) Kg (aj cZ) L zk)<|pv 11) (ai<|ao gQ) ay)<|ai<|aP (PW.pt<|bW (cy (iO dX<|lH hr) (pv 11) (pv 10) U)<|bG<|dW<|dq<|uk FR eL U eH eS ev (λ_=>rfl) (JN _)<|bj (x9 (ps:=[UB]) (fr:=[Ur]) (ix:=[0]) (qual:=qL) Kg (aj cZ) L zk)<|pv 11) (ai<|ao gQ) ay)<|ai<|ao gQ),?_⟩;have kl:=hV.ks.length;obtain⟨mc,mk,Zs,tm⟩:=hD.kl;have tM:=Zs.2.1;have tL:=Zs.1;have FO:=wq hD;refine⟨?_,?_⟩;rotate_left
  ·refine⟨_,U,d,_,U,bD hV.ed hV.v7,_,U,lk,VU,U,⟨_,P8.of hV.ek⟩,⟨_,P8.of K'⟩,?_⟩;refine wT (K:=K) (l1:=lk) (l2:=VU) (xs:=us) (ys:=D.kinds.map λx=>V.bl<|lO x.dd) (by rw[Me];exact kl) (λi p O=>Lr v d VU H p O) ⟨_,_,_,_,_,_,_,U,P4.refl _⟩ (λi p O _ G=>by obtain⟨_,_,_,_,_,_,_,_,s⟩:=G;exact⟨P8.of<|s _ _ hV.ek,P8.of<|s _ _ K'⟩) ?_ (λp O h=>h);intro i x y p H2 Tz hx hy nT z;obtain⟨v3,v4,v5,v6,v7,v8,v9,rfl,s2⟩:=z;obtain⟨Y,eN,hk⟩:=fh hV.ks hx;obtain⟨t,lf,b,fu,rfl,h1,h2,h3,h4⟩:=hk.kd;have W2:Y∈D.kinds:=Mr eN;have X6:y=V.bl (lO Y.dd):=by
    rw[Mt,eN]at hy;exact(MN hy).symm
   subst X6;generalize G:aB H2 Tz _=H3;have sT:=(nw nT G).1;have eT:=(nw nT G).2;clear G;have s3:=s2.trans sT;refine⟨Tz,_,U,P5.of eT,U,_,_,U,⟨t,_,U,P5.of<|s3 _ _ h1,U,_,_,U,_,_,U,_,_,U,U,_,_,U,U,?_⟩⟩;refine yu (t:=uG _ _) λD1 N1=>?_;refine put λD2 N=>?_;have kd:=(tm Y W2).dd;have tv:JE Y.dd:=⟨_,_,_,_,mk-1,by have:=Zs.2.2.2;lia,rf kd<|by have:=Zs.2.2.1;lia⟩;refine⟨_,U,_,U,v,D,_,U,hT.same s3,.inl ⟨Y,U,FO,W2,tv,λH4 s4=>?_⟩⟩;have tT:=s3.trans s4;refine N _ _ ?_;clear N D2;refine put λD2 N=>?_;refine⟨_,U,_,_,true,U,.bl _,U,_,U,cD ?_⟩;refine⟨_,U,_,U,U,_,U,aY (by simp) ?_⟩;refine N _ _ ?_;clear N D2;refine⟨_,U,zd,zd,?_⟩;refine gm (lo:=0) (n:=2) (λj p O=>∃v8 v9:Option V,p=[some v,some<|.ref d,some<|.ref VU,some<|.str Y.name,some<|.ref lf,some b,some<|.bl<|lO Y.dd,some<|.bl<|lO Y.dd,v8,v9,none,none]/\P4 H O) ⟨_,_,U,tT⟩ ?_ ?_
   ·intro j p H5 hj z;obtain⟨v8,v9,rfl,s5⟩:=z;have eg:=om hD W2;refine putL λD3 N3=>?_;refine put λD2 N=>?_;have YV:=hD.p4;have ZU:=hD.m3;refine⟨_,U,_,U,v,D,_,U,hT.same s5,.inl ⟨Y,U,FO,W2,eg,YV,by lia,λl ts H6 s6 nl el WK=>?_⟩⟩;have et:=s5.trans s6;refine N _ _ ?_;clear N D2;refine put λD2 N=>?_;refine⟨_,U,_,_,true,U,.lst el,U,_,U,cD ?_⟩;refine⟨_,U,_,U,_,U,d,lf,D,gt,kvs,lp,lm,lk,us,Y.fs,U,hV.same et,⟨fu,et _ _ h2,bq (λ_ _ h=>Qp.kt2 (ak et) h) h3⟩,eg,YV,by lia,λl' ZG H7 s7 tc eF=>?_⟩;have Yo:=yc (i3 D Y.fs);have eh:=s7 _ _ el;refine⟨_,_,.lst (P8.of eh)<|Cw<|bq (λ_ _ h=>Ri.kt (ak s7) h) WK,.lst (P8.of tc)<|Cw eF,Yo.1,Yo.1,by rw[Nat.min_self];show PyData.depthAll _+1<=60;have:=Yo.2;lia,_,U,aY ?_ ?_⟩
    ·rw[SeqAt.eqv_refl (.list<|(i3 D Y.fs).map JP) Yo.1];rfl
    ·exact N _ _ ⟨_,U,.inl ⟨U,_,P8.of eh⟩,l,ts,U,U,eh,N3 _ _ ⟨_,_,U,Cz (et.trans s7)<|rO s5 nl⟩⟩
   ·intro p H5 z;obtain⟨v8,v9,rfl,s5⟩:=z;exact N1 _ _ ⟨_,_,_,_,_,_,_,U,s5⟩
  intro p H1 z;obtain⟨v3,v4,v5,v6,v7,v8,v9,rfl,s1⟩:=z;refine⟨?_,?_⟩;rotate_left
  ·have V1:=hV.same s1;refine⟨_,U,d,_,U,bD V1.ed V1.v7,lk,U,⟨_,P8.of V1.ek⟩,?_⟩;refine gE (K:=K) (a:=lk) (xs:=us) (λi ys O=>P4 H1 O/\ys=am ((D.kinds.take i).map Kn.name)) ⟨P4.refl _,U⟩ (λi ys O hi⟨X,a2⟩=>⟨P8.of<|X _ _ V1.ek,by rw[a2];unfold am;rw[Me,Me,Mp];lia⟩) ?_ ?_
   ·rintro i u ys H2 YS ⟨X,rfl⟩;obtain⟨x,hx,hk⟩:=fh V1.ks YS;obtain⟨t,lf,b,fu,rfl,h1,_⟩:=hk.kd;refine⟨trivial,eO ?_⟩;refine⟨_,U,t,_,_,_,U,U,P5.of<|X _ _ h1,aZ,Nx.mk (Mc.mp YS).1 ⟨X,?_⟩⟩;unfold am;rw[k_,hx];simp
   ·rintro ys H2 ⟨X,rfl⟩ L hL;refine⟨_,_,_,_,_,_,_,L,U,(s1.trans X).trans<|ag hL,?_⟩;rw[aa,kl,MD]
  clear v3 v4 v5 v6 v7 v8 v9;intro p H1 z;obtain⟨v3,v4,v5,v6,v7,v8,v9,ln,rfl,s1,el⟩:=z;have V1:=hV.same s1;have h0:0<D.kinds.length:=by lia
  have hz:=hD.kf _ (MX h0);have ee:(am<|D.kinds.map Kn.name)[0]?=some (.str D.kinds[0].name):=by
   unfold am;rw[Mt,Mt,Mi h0];rfl
  generalize D.kinds[0].name=z0 at hz ee;have zl:=hz.1.2.2.1;have e':=tV hz.1;have tp:0<D.places.length:=hD.p1;have tf:(am D.places)[0]?=some (.str D.places[0]):=by
   unfold am;rw[Mt,Mi tp];rfl
  refine put λD1 N1=>?_;refine⟨_,U,ln,_,_,_,U,U,P8.of el,aI (j:=0) ee,_,_,U,U,(by show _+1<=_;lia),_,U,ln,_,_,_,U,U,P8.of el,aI (j:=0) ee,Qa,λla na=>?_⟩;generalize G:aB H1 la _=H2;have sa:=(nw na G).1;have ea:=(nw na G).2;clear G;refine⟨_,U,ln,_,_,_,U,U,P8.of<|sa _ _ el,aI (j:=0) ee,Qa,λM tx=>?_⟩;generalize G:aB H2 M _=H3;have sb:=(nw tx G).1;have eb:=(nw tx G).2;clear G;refine λZ tg=>?_;have sc:=ag (o:=.dK []) tg;have ec:(aB H3 Z<|.dK []) Z=some (.dK []):=aa;generalize aB H3 Z (.dK ([]:List (di×V)))=H4 at*;have Zb:=(sa.trans sb).trans sc;have V4:=V1.same Zb;refine⟨_,U,d,_,U,bD V4.ed V4.v4,lp,_,_,_,U,U,P8.of V4.ep,aI (j:=0) tf,Qa,λlt tk=>?_⟩;have sd:=ag (o:=.lst [.non,.int 7,.bl true,.str "",.str<|z0++"x",.ref la,.ref M,.ref Z,.str D.places[0]]) tk;have ed:(aB H4 lt<|.lst [.non,.int 7,.bl true,.str "",.str<|z0++"x",.ref la,.ref M,.ref Z,.str D.places[0]]) lt=some (.lst [.non,.int 7,.bl true,.str "",.str<|z0++"x",.ref la,.ref M,.ref Z,.str D.places[0]]):=aa;have th:∀z∈([.non,.int 7,.bl true,.str "",.str<|z0++"x",.ref la,.ref M,.ref Z,.str D.places[0]]:VA),Hw K D (aB H4 lt<|.lst [.non,.int 7,.bl true,.str "",.str<|z0++"x",.ref la,.ref M,.ref Z,.str D.places[0]]) z:=by
   simp only[N_,O_];exact⟨gA U,gA U,gA U,gA U,gA U,rQ (.inr ⟨la,U,.inl ⟨z0,e',.inl<|sd _ _<|(sb.trans sc) _ _ ea⟩⟩) U,rQ (.inr ⟨M,U,.inl ⟨z0,e',.inr<|sd _ _<|sc _ _ eb⟩⟩) U,rQ (.inr ⟨Z,U,.inr ⟨_,sd _ _ ec⟩⟩) U,gA U,λ_ h=>by cases h⟩
  generalize ([.non,.int 7,.bl true,.str "",.str<|z0++"x",.ref la,.ref M,.ref Z,.str D.places[0]]:VA)=zs at*;generalize aB H4 lt (.lst zs)=H5 at*;have e3:=Zb.trans sd;have er:=s1.trans e3;have es:=e3 _ _ el;have WU:Qo H5 T qL:=Y_.bt er;have e8:=hT.same er;have lT:lt≠T:=by
   obtain⟨ps,e,_⟩:=WU;exact gP ed e (by nofun)
  have nT:ln≠T:=by
   obtain⟨ps,e,_⟩:=WU;exact gP es e (by nofun)
  refine⟨lt,U,⟨_,P8.of ed⟩,?_⟩;refine jC (K:=K) (a:=lt) (xs:=zs) (λi p O=>∃VM:Option V,p=[some v,some<|.ref d,some<|.ref VU,v3,v4,v5,v6,v7,v8,v9,some<|.ref ln,VM]/\Bt T H5 O/\Qo O T qL) ⟨_,U,λ_ _ e _=>e,WU⟩ (λi p O _ G=>by obtain⟨_,_,b,_⟩:=G;exact P8.of (b _ _ ed lT)) ?_ ?_
  ·intro i z p H6 tb z;obtain⟨VM,rfl,I,Y5⟩:=z;refine putL λD3 N3=>?_;refine put λD2 N=>?_;rcases th z (Mr tb)with⟨XI,ez⟩|⟨tz,nz⟩
   ·have e1:=I _ _ es nT;refine⟨_,U,_,U,.inl ⟨ln,_,U,.inl<|P8.of e1,XI,cQ _,_,U,aY (by show(!ic z _)=false;rw[ez];rfl) ?_⟩⟩;exact N _ _ ⟨_,U,_,U,.inl ⟨ln,_,U,.inl<|P8.of e1,XI,cQ _,_,U,aY (by show(!ic z _)=false;rw[ez];rfl) (N3 _ _ ⟨_,U,I,Y5⟩)⟩⟩
   ·have ZA:∀(O:Hp)(Q':VK),Bt T H5 O->Q' (.bl true) O->Ll (J1 K true) (xW K) z (.ref ln) O Q':=λO Q' b qq=>by
     have e1:=b _ _ es nT;rcases nz.th (tz.bt WU b)with⟨fl,hi⟩|⟨a,rfl,rt⟩
     ·exact .inl ⟨ln,_,U,.inl<|P8.of e1,fl,cQ _,by show Q' (.bl<|!ic z _) O;rw[hi];exact qq⟩
     ·exact .inr ⟨a,ln,D.kinds.map Kn.name,U,U,rt,.inl<|P8.of e1,qq⟩
    refine⟨_,U,_,U,ZA _ _ I ⟨_,U,kG ?_⟩⟩;refine⟨Y5,λf1 H7 tF e5 L7 tr=>⟨_,U,λcs CO nn=>?_⟩⟩;have J:Bt T H5 H7:=λb o e ne=>tr _ _ (I _ _ e ne) ne;have e9:=tz.bt WU J;refine Cv (λv D z H Q E a b c=>⟨v,D,z,U,a,.inr ⟨b _<|P4.refl _,c⟩⟩) L7 CO nn (by show kc Kg (aj cZ) _ [UB] [Ur] [0]=true;decide +kernel) zk U (λ_ _ _ _=>by exact JQ λ_=>rfl) (e8.k2 WU J) e9 (λO s'=>nz.th<|e9.same s') (λH9 s9=>?_) (λc cl A outer s H E hr=>uj FI hr U mI kI bI .nil eY<|bj (pv 1)<|pv 0);refine⟨true,U,cD ?_⟩;refine N _ _ ?_;clear N D2;have e7:Qo H9 T qL:=e5.bt s9;have ei:Bt T H5 H9:=λb o e ne=>s9 _ _ (J _ _ e ne);refine⟨_,U,_,U,ZA _ _ ei ⟨_,U,kG ?_⟩⟩;refine⟨e7,λf2 Yi tP ew tn ey=>⟨_,U,λcs CO nn=>?_⟩⟩;have Yx:Bt T H5 Yi:=λb o e ne=>ey _ _ (ei _ _ e ne) ne;have en:=tz.bt WU Yx;refine Cv (λv D z H Q E a b c=>⟨v,D,z,U,a,.inr ⟨b,c⟩⟩) tn CO nn (by show kc Kg (aj cZ) _ [UB] [Ur] [0]=true;decide +kernel) zk U (λ_ _ _ _=>by exact JQ λ_=>rfl) (e8.k2 WU Yx) en (λO s'=>nz.th<|en.same s') (λYh Xl=>?_) (λc cl A outer s H E hr=>uj FC hr U mC kC bC .nil eY<|bj (pv 1)<|pv 0);exact⟨true,U,cD<|N3 _ _ ⟨_,U,λb o e ne=>Xl _ _<|Yx _ _ e ne,ew.bt Xl⟩⟩
  ·intro p H6 z;obtain⟨VM,rfl,I,Y5⟩:=z;refine N1 _ _ ?_;exact q H6 (λb o e ne=>I _ _ (er _ _ e) ne) Y5
end
def CA(q:qY D fn e):(gR D).length<=20000/\(TK.toks<|gR D).length<=1500/\qJ ((TK.toks<|gR D).map S) D/\tH D:=by
 have z:=D6 q;have I:=oj q;have L:=BA z I;have O:=yR z;refine⟨by lia,by rw[O,Me];exact oj q,?_,wq q⟩;rw[O,tO];exact D9 q
def Hx(t:Qo H T qL)(b:Bt T H e)(h:P8 K H a i):P8 K e a i:=by
 obtain⟨r,q,_⟩:=t;rcases h with(h|⟨o,h⟩)|h
 ·exact .inl (.inl<|b _ _ h<|gP h q<|by nofun)
 ·exact .inl (.inr ⟨o,b _ _ h<|gP h q<|by nofun⟩)
 ·exact .inr h
def wG(K:ZF)(T:Vr):Sp:=λvs H Q _=>∃(a:Vr)(q:List Int),vs=[.ref a]/\P8 K H a (q.map V.int)/\q.length<=63/\Qo H T qL/\∀z,Q (.bl true) z
def EH{H:Hp}{d T:Vr}{t:List (di×V)}{o:HO}(h:Qo H T qL)(q:H d=some (.dK t)):Qo (aB H d o) T qL:=by
 obtain⟨r,e,O,k⟩:=h;refine⟨r,by rw[al<|gP e q<|by nofun];exact e,O,λi v z=>?_⟩;obtain⟨x,e1,e2⟩:=k i v z;exact⟨x,e1,by rw[al<|gP e2 q<|by nofun];exact e2⟩
structure KJ(Wm:Vr)(W:Nat)(ps ms fn:Vx)(c k:Nat)(ks:List Kn)(bs:List Bool)(i:Nat)(WJ:VA)(Wv:List Kn)(H':Hp):Prop where
 e:H' Wm=some (.lst WJ)
 p:Paired (RS Wm H') WJ Wv
 n:Wv.map Kn.name=(ks.take i).map Kn.name
 l:Wv.length=i
 k:∀x∈Wv,KL W ps ms fn c k x
 b:Wv.map (λx=>lO x.dd)=bs.take i
def JW(O:Sa H d D t e r i m f)(q:qY D fn t)(Y:x∈D.kinds)(g:Qg H p)(L:RK H o x.fs):Lx H p d o D.width D.places D.marks x.fs:=
 ⟨g,⟨e,r,i,O.ed,O.v1,O.v4,O.v5,O.ep,O.em⟩,L,om q Y,q.w4,q.w24,q.p1,by have:=q.p4;lia,by have:=q.m3;lia,λz I=>q.nf z (by simp[I]),λz I=>q.nf z<|by simp[I]⟩
section
def Qz:ax [UH,UR,Ue,Ug,UL,"_law_kinds",Ux,Uf,Uu,"_law_good"] [UH] (aj vh):=cP zk
def Ls:([UB,Ue]:Vx).Nodup:=by decide +kernel
def EI(F:Qj K "law" "law" vh f fd)(B:Bl R)(eN:R "zip"=none)(CL:Fn P w K R m "_law_cell" 1 [UH,UR] (vq K))(ST:Fn P w K R m "_law_stream" 1 [U2] nu)(F':Fn P w K R m "_law_take" 1 [Ue,Uw] dE)(LT:Fn P w K R m "_law_plain_table" n [Ue,"_law_most"] oa)
  (TX:Fn P w K R m "_law_text" n [Ug] rE) (RT:Fn P w K R m "read_table" n [US] (GJ C)) (SP:Fn P w K R m "_law_spoilt" 7 [Ue,Ug,Uf,Uu] (kq 4)) (LR:Fn P w K R m "_law_right" 9 [Ur,Ug,UL] (EG C T)) (hn:9<=n):P7 P w K R m ce (n+1) f fd [UH] (wG K T):=by
 have ZZ:=Qz
 walk_at "o"
 ·obtain⟨l,ns,rfl,hS,hl,Y_,q⟩:=h;have hu:=eE hr;have sz:(1000:Nat)<=sizeLine:=by decide
  have N8:P9 1 _:=hr.mono (by lia);have tc:P9 7 _:=hr.mono (by lia);have tr:P9 9 _:=hr.mono hn;refine⟨_,(ae (cU h_ U (fm U B.range<|aV<|aC (oV U) (by rfl) B.max PyProof.Rows.boot_max<|bj af<|aC (yh U) (by rfl) B.min PyProof.Rows.boot_min<|bj (aC aT (by rfl) B.len MG<|aV<|pv 0) af) (eQ 1 Qz.nd)<|ae (i6 (i:=2) Qz.nd U (Or.inr U)<|ap ST N8 U<|aV<|ap CL N8 U<|bj (pv 0)<|pv 1)<|ae (bP 3 Qz.nd<|ap LT hr U<|bj (pv 2) af)<|ae (gv (i:=4) Qz.nd U U (N':=[UB,Ue]) (ix:=[none,some 2]) (sc0:=aj vh) (N:=[UH,UR,Ue,Ug,UL,"_law_kinds",Ux,Uf,Uu,"_law_good"]) U zk (cW<|bv hu (pv 3) ah) (λ_ _ _ _ _=>(gZ (i:=0) Ls)) (λ_ _ _ _ _=>eM) λ_ _ _ _ _=>(uC aR (ap F' N8 U<|bj (pv 1) af) af))<|ae (bP 5 Qz.nd<|aM bN)<|ae (cU h_ U (zP U eN<|bj (bv hu (pv 3) ah)<|pv 4) (cA U<|aq (cA U<|aq (eQ 6 Qz.nd)<|aq (eQ 7 Qz.nd)<|aq (eQ 8 Qz.nd) bi)<|aq (eQ 9 Qz.nd) bi)<|ai<|aL<|cx Mw My Mx bu (pv 5)<|aV<|aw<|du (pv 6) (pv 7)<|eZ (aM<|bj (ap SP tc U<|jF (pv 2) (pv 3) (pv 7)<|pv 8)<|pv 8)<|aU dJ (by rfl) B.int M0<|aV<|pv 9)<|ae (fS hu (pv 3) ah (pv 5) U)<|ai<|aP (dW<|dq<|ap LR tr U<|du (ap RT hr U<|aV<|ap TX hr U<|aV<|pv 3) (pv 3)<|pv 4) (ai<|ao gQ) ay)<|ai<|ao gQ),_,U,l,_,U,.inl hS,_,_,U,_,_,U,_,U,?_,?_,?_⟩
  ·split<;>(try split)<;>lia
  ·rw[Me];split<;>(try split)<;>lia
  refine gm (lo:=0) (λi M G=>∃v1 v2 v3 v4 v5 v6 v7 v8 v9:Option V,M=[some<|.ref l,v1,v2,v3,v4,v5,v6,v7,v8,v9]/\Bt T H G/\Qo G T qL) ⟨_,_,_,_,_,_,_,_,_,U,λ_ _ e _=>e,Y_⟩ ?_ ?_
  ·intro i M H1 hi z;obtain⟨v1,v2,v3,v4,v5,v6,v7,v8,v9,rfl,b1,t1⟩:=z;refine putL λD1 N1=>?_;refine put λD2 N=>?_;refine⟨_,U,_,U,l,ns,0+(i:Int),U,Hx Y_ b1 hS,by lia,λc=>⟨c,U,λp H2 np s2 g2=>?_⟩⟩;refine N _ _ ?_;clear N D2;refine put λD2 N=>?_;refine⟨_,U,p,3,U,g2,zd,zd,λd H3 D gt v lp lm lk us fn g3 b3 hV L nd tT K'=>?_⟩;refine N _ _ ?_;clear N D2;refine put λD2 N=>?_;have kl:=hV.ks.length;obtain⟨mc,mk,Zs,tt⟩:=id L.kl;obtain⟨tg,tk,rfl,rfl⟩:=Zs;have t3:Qo H3 T qL:=yb (t1.bt s2) g2 b3;refine⟨_,U,d,_,U,bD hV.ed hV.v7,lk,U,⟨_,P8.of hV.ek⟩,?_⟩;refine gE (K:=K) (a:=lk) (xs:=us) (λi ys G=>∃bs:List Bool,Qg G p/\Ql p H3 G/\ys=bs.map V.bl/\bs.length=i) ⟨[],g3,Ql.refl _ _,U,U⟩ (λi ys G hi⟨bs,g,b,e,e'⟩=>⟨P8.of (hV.but g3 b).ek,by rw[e,Me];lia⟩) ?_ ?_
   ·intro j u ys H4 tm z;obtain⟨bs,g4,b4,rfl,rfl⟩:=z;refine⟨⟨U,trivial⟩,eO ?_⟩;refine⟨_,U,p,2,U,g4,zd,zd,λr H5 tx g5 b5=>⟨U,Nx.mk (Mc.mp tm).1 ⟨bs++[decide (V.int (r:Nat)=V.int 0)],g5,b4.trans b5,?_,?_⟩⟩⟩
    ·rw[Mq];rfl
    ·rw[Md];rfl
   intro ys H4 z VU et;obtain⟨bs,g4,b4,rfl,YZ⟩:=z;generalize Y:aB H4 VU _=H5;have e3:=(nw et Y).1;have ey:H5 VU=some (.lst<|bs.map V.bl):=(nw et Y).2;clear Y;have g5:=g4.same e3;have b5:=b4.same e3;have V5:=hV.but g3 b5;have tb:p≠VU:=g4.ne et;refine N _ _ ?_;clear N D2;refine put λD2 N=>?_;refine⟨Qa,λO ea=>?_⟩;generalize Y:aB H5 O _=H6;have sk:=(nw ea Y).1;have e8:=(nw ea Y).2;clear Y;have e0:p≠O:=g5.ne ea;have V6:=V5.same sk;refine N _ _ ?_;clear N D2;refine put λD2 N=>?_;refine⟨_,U,d,_,U,bD V6.ed V6.v7,_,U,lk,VU,U,⟨_,P8.of V6.ek⟩,⟨_,P8.of<|sk _ _ ey⟩,?_⟩;have en:∀G,Ql p H5 G->G VU=some (.lst<|bs.map V.bl):=λG b=>b _ _ ey tb.symm;refine wT (K:=K) (l1:=lk) (l2:=VU) (xs:=us) (ys:=bs.map V.bl) (by rw[Me];lia) (λj M G=>∃(v6 v7 v8 v9:Option V)(WJ:VA)(Z:List Kn),M=[some<|.ref l,some<|.int<|0+(i:Int),some<|.ref p,some<|.ref d,some<|.ref VU,some<|.ref O,v6,v7,v8,v9]/\Qg G p/\Ql p H5 G/\KJ O D.width D.places D.marks fn 2 3 D.kinds bs j WJ Z G) ?_ ?_ ?_ ?_
   ·exact⟨_,_,_,_,[],[],U,g5.same sk,cH sk,⟨e8,.nil,U,U,(λx hx=>nomatch hx),U⟩⟩
   ·exact λj M G _ Y=>by obtain⟨_,_,_,_,WJ,Z,_,g,b,_⟩:=Y;exact⟨P8.of (V5.but g5 b).ek,P8.of<|en _ b⟩
   ·intro j x y M H7 Tz hx X nT z;obtain⟨v6,v7,v8,v9,WJ,Z,rfl,g7,b7,I⟩:=z;obtain⟨kn,er,hk⟩:=fh V5.ks hx;have W2:kn∈D.kinds:=Mr er;obtain⟨t,lf,b,fu,rfl,h1,h2,h3,h4⟩:=hk.kd;have Ya:j<D.kinds.length:=(Mc.mp er).1;obtain⟨bb,ta,rfl⟩:∃bb,bs[j]?=some bb/\V.bl bb=y:=by
     rw[Mt]at X;cases e:bs[j]? with
     |none=>rw[e]at X;cases X
     |some bb=>rw[e]at X;exact⟨bb,U,MN X⟩
    have eg:lf≠O:=au h2 ea;generalize Y:aB H7 Tz _=H8;have sT:=(nw nT Y).1;have eT:=(nw nT Y).2;clear Y;have g8:=g7.same sT;have b8:=b7.same sT;have k8:=bK g5 b8;have V8:=V5.but g5 b8;have es:=b8 _ _ h2 (bJ g5 h2<|jW h3);have eh:=bq (λ_ _ h=>Qp.kt2 k8 h) h3;have K0:=tt kn W2;refine⟨Tz,_,U,P5.of eT,U,_,_,U,⟨t,_,U,P5.of<|k8 _ _ h1,U,_,_,U,_,_,U,_,_,U,U,_,_,U,U,?_⟩⟩;refine yu (t:=EL _) λD3 N3=>?_;refine⟨_,U,.inl ⟨U,_,P8.of<|sT _ _ I.e⟩,_,U,_,U,_,U,_,U,_,U,_,U,p,d,lf,D.width,D.places,D.marks,kn.fs,b,kn.dd,2,U,JW V8 L W2 g8 ⟨fu,es,eh⟩,h4.kt k8,K0.dd,zd,λv' H9 WT g9 b9 YC ez Wa=>?_⟩;refine⟨_,U,Qa,λYQ ZN=>?_⟩;generalize Y:aB H9 YQ _=Yi;have WB:=(nw ZN Y).1;have Zu:=(nw ZN Y).2;clear Y;have ei:Ql p H8 Yi:=b9.same WB;have eH:=bK g8 ei;obtain⟨vx,J,Xt,tf,ti,tn⟩:∃vx J,oH ([v',b]:VA) (if bb=true then 1 else 0)=some vx/\RD Yi J vx/\eA D.width D.places D.marks kn.fs 2 2 J/\lO J=bb:=by
     cases bb with
     |false=>exact⟨v',WT,aI (j:=0) U,YC.kt<|ak WB,ez,Wa⟩
     |true=>exact⟨b,kn.dd,aI (j:=1) U,(h4.kt k8).kt eH,K0.dd,K' kn W2⟩
    refine⟨_,U,.inr ⟨_,U,YQ,_,_,_,U,U,P8.of Zu,Xt,Qa,λYN tv=>?_⟩⟩;generalize Y:aB Yi YN _=Yh;have Xl:=(nw tv Y).1;have e7:=(nw tv Y).2;clear Y;have el:=tf.kt (ak Xl);have ee:Ql p H8 _:=ei.same Xl;have e9:=(g9.same WB).same Xl;have WW:Ql p H7 Yh:=(cH sT).trans ee;have eS:=bK g7 WW;have eL:=bK g8 ee;have e2:=WW _ _ I.e e0.symm;have tA:=I.p.length;have ll:=I.l;refine⟨O,_,_,U,U,e2,by lia,?_⟩;have kt:Qi Yh (aB Yh O<|.lst<|WJ++[.ref YN]):=λb' xs eb=>by
     rw[al]
     ·exact eb
     ·rintro rfl;rw[e2]at eb;cases eb
    refine N3 _ _ ?_;refine⟨_,_,_,_,WJ++[.ref YN],Z++[⟨kn.name,kn.fs,js D.places D.marks kn.fs J,J⟩],U,?_,?_,⟨aa,?_,?_,?_,?_,?_⟩⟩
    ·obtain⟨x,y,z,e⟩:=e9;exact⟨x,y,z,by rw[al e0];exact e⟩
    ·intro b' o eb nb;rw[al<|au eb ea];exact WW _ _ (b7 _ _ eb nb) nb
    ·refine fF ⟨YN,lf,vx,U,eg,kt _ _ e7,⟨fu,?_,bq (λ_ _ h=>Qp.kt2 kt<|Qp.kt2 eL h) eh⟩,el.kt kt⟩ (bq (λ_ _ h=>RS.kp (λb' xs eb=>kt _ _<|eS _ _ eb) (λx' YM nx YH ex J'=>by
      rw[al nx];exact wb (lk:=O) g7 WW x' YM nx YH ex J') h) I.p)
     rw[al eg];exact ee _ _ es (bJ g8 es<|jW eh)
    ·rw[Mq,I.n,k_,er,Mq];rfl
    ·rw[Md,ll];rfl
    ·intro x VZ;rcases MC.mp VZ with h|h
     ·exact I.k x h
     ·rw[MJ.mp h];exact⟨K0.fn,K0.st,ti,U⟩
    ·rw[Mq,I.b,k_,ta];show _++[lO J]=_++[bb];rw[tn]
   ·intro M H7 z;obtain⟨v6,v7,v8,v9,WJ,Z,rfl,g7,b7,I⟩:=z;have V7:=V5.but g5 b7;have ZT:Z.map Kn.name=D.kinds.map Kn.name:=by rw[I.n,kl,MD]
    have Zk:Z.length=D.kinds.length:=by rw[I.l,kl]
    have Zq:Z.map (λx=>lO x.dd)=bs:=by rw[I.b,<-YZ,MD]
    refine N _ _ ?_;clear N D2;refine put λD2 N=>?_;refine⟨_,U,_,U,d,_,U,QY.k (k:=kS UE) V7.ed (by lia),?_⟩;have X0:qY ⟨D.width,D.cells,D.depth,D.places,D.marks,D.gates,Z⟩ fn gt:=⟨L.w4,L.w24,L.c4,L.c64,L.d8,L.p1,L.p4,L.m3,L.fl,L.nd,L.nf,by show(Z.map Kn.name).Nodup;rw[ZT];exact L.kn,λx hx=>by
     have:x.name∈D.kinds.map Kn.name:=by rw[<-ZT];exact MQ.mpr ⟨x,hx,U⟩
     obtain⟨y,X,e⟩:=MQ.mp this;rw[<-e];exact L.kf y X,L.ga,L.gb,2,3,⟨by show 1<=Z.length;lia,by show Z.length<=3;lia,U,U⟩,I.k⟩
    have kp:∀x ys,H7 x=some (.lst ys)->(aB H7 d<|.dK<|bh v (kS UE)<|.ref O) x=some (.lst ys):=λx ys e=>eB e V7.ed;have tp:Qi H7 (aB H7 d<|.dK<|bh v (kS UE)<|.ref O):=λx ys e=>by
     rw[al]
     ·exact e
     ·rintro rfl;rw[V7.ed]at e;cases e
    have V8:Sa (aB H7 d<|.dK<|bh v (kS UE)<|.ref O) d ⟨D.width,D.cells,D.depth,D.places,D.marks,D.gates,Z⟩ gt (bh v (kS UE)<|.ref O) lp lm O WJ:=
     ⟨aa,by rw[bO zk];exact V7.v1,by rw[bO zk];exact V7.v2,by rw[bO zk];exact V7.v3,by rw[bO zk];exact V7.v4,by rw[bO zk];exact V7.v5,by rw[bO zk];exact V7.v6,by rw[iw],kp _ _ V7.ep,kp _ _ V7.em,kp _ _ I.e,bq (λ_ _ h=>RS.kp tp (λx us _ fs e _=>kp _ _ e) h) I.p⟩
    have t7:Qo H7 T qL:=yb t3 g3 (b5.trans b7);have t8:=EH (o:=.dK (bh v (kS UE)<|.ref O)) t7 V7.ed;have ev:=kp _ _ (en _ b7);have Yz:∀b o,H b=some o->b≠T->(aB H7 d<|.dK<|bh v (kS UE)<|.ref O) b=some o:=λb o hb ne=>by
     have e1:=b1 _ _ hb ne;have ec:b≠p:=au e1 np;have e2:=s2 _ _ e1;rw[al<|au e2 nd];exact b7 _ _ (b5 _ _ (b3 _ _ e2 ec) ec) ec
    generalize aB H7 d (.dK<|bh v (kS UE)<|.ref O)=H8 at*;generalize bh v (kS UE) (.ref O)=eF at*;refine N _ _ ?_;clear N D2;obtain⟨o1,o2,o3,o4⟩:=CA X0;refine⟨_,U,d,_,gt,eF,lp,lm,O,WJ,fn,U,V8,X0,λH9 s9=>⟨_,_,U,o1,o2,o3,o4,λw1 Yi WB e5=>?_⟩⟩;have Y7:=s9.trans WB;refine⟨_,U,_,U,w1,d,VU,_,gt,eF,lp,lm,O,WJ,fn,U,e5,V8.same Y7,X0,?_,t8.bt Y7,λYh ew YN=>⟨_,U,cD<|N1 _ _ ⟨_,_,_,_,_,_,_,_,_,U,λb o hb ne=>ew _ _ (Y7 _ _<|Yz b o hb ne) ne,YN⟩⟩⟩;rw[Y7 _ _ ev,<-Zq,M8];rfl
  ·intro M H5 z;obtain⟨v1,v2,v3,v4,v5,v6,v7,v8,v9,rfl,b5,t5⟩:=z;exact q H5
end
def aW(K:ZF)(x:Str)(st:Stmt)(f:Vr):Prop:=
 PySem.W.nsIn K mainGlobals x=some (some<|.ref f)/\∃q:Vw,Qj K x x st f q
variable{f:Vr}{x:Str}{K:ZF}
def Hy{st:Stmt}{O:Vq}{e z:Option Vr}{q:Array (Option Vq)}{kV doc pm Of ct:Vq}(a:PySem.W.nsIn K mainGlobals x=some (some<|.ref f))
  (l:K.lookup f=some ⟨O,e,.func<|PySem.W.fnOf x x (cY st) (cq st) (aj st) .none kV doc pm z Of ct,q⟩) (c:PySem.W.codeIn K Of x=true) (k:PySem.W.keepIn K (.ref f)=true):aW K x st f:=⟨a,_,zI l c k⟩
variable{n:Nat}{P:List Vq->Prop}
def uS(h:∀a,∀o:List Vq,o.length=n->P (a::o)):∀o:List Vq,o.length=n+1->P o:=λo e=>by
 cases o with
 |nil=>cases e
 |cons a t=>exact h a t (Nat.succ.inj e)
def u0(h:P []):∀t:List Vq,t.length=0->P t:=λt e=>by
 rw[TD e];exact h
def u1(h:∀a,P [a]):∀e:List Vq,e.length=1->P e:=uS λa=>u0 (h a)
def u2(h:∀a b,P [a,b]):∀e:List Vq,e.length=2->P e:=uS λa=>u1 (h a)
def u3(h:∀a b c,P [a,b,c]):∀e:List Vq,e.length=3->P e:=uS λa=>u2 (h a)
def u4(h:∀a b c d,P [a,b,c,d]):∀e:List Vq,e.length=4->P e:=uS λa=>u3 (h a)
def u5(h:∀a b c d e,P [a,b,c,d,e]):∀t:List Vq,t.length=5->P t:=uS λa=>u4 (h a)
def u8(h:∀a b c d e f g h,P [a,b,c,d,e,f,g,h]):∀t:List Vq,t.length=8->P t:=uS λa=>uS λb=>uS λc=>u5 (h a b c)
variable{st:Stmt}{mg:Str->Option Vq}
def JX{P:Vt}{w:Vu}{base h:Heap}{k:Nat}{ps:Vx}{sp:Sp}(X:K.In h)(G:h.Ns mainGlobals mg)(D:aW K x st f)
  (ok:∀q,Qj K x x st f q->P7 P w K mg base ce k f q ps sp)
  (O:∀(kV doc pm:Vq)(z:Option Vr)(Of ct:Vq)(e:List Vq),e.length=ps.length->bindArgs (PySem.W.fnOf x x (cY st) (cq st) (aj st) .none kV doc pm z Of ct) ⟨e,[]⟩=pure (ps.zip e):=by intro _ _ _ _ _ _;first|exact u0 rfl|exact u1 λ_=>rfl|exact u2 λ_ _=>rfl|exact u3 λ_ _ _=>rfl|exact u4 λ_ _ _ _=>rfl|exact u5 λ_ _ _ _ _=>rfl|exact u8 λ_ _ _ _ _ _ _ _=>rfl):Fn P w K mg base x k ps sp:=by
 obtain⟨a,q,F⟩:=D;exact⟨f,q,ML X G a,F.kp,F.binds O,ok q F⟩
structure uB(K:ZF)(x qual:Str)(st:Stmt)(f:Vr):Prop where
 fu:∃fd:Vw,Qj K x qual st f fd
 fn:PySem.W.isFn K (.ref f)=true
def Hz{K:ZF}{x e:Str}{st:Stmt}{f:Vr}{O:Vq}{t z:Option Vr}{q:Array (Option Vq)}{kV doc pm Of ct:Vq}
  (l:K.lookup f=some ⟨O,t,.func<|PySem.W.fnOf x e (cY st) (cq st) (aj st) .none kV doc pm z Of ct,q⟩) (c:PySem.W.codeIn K Of e=true) (k:PySem.W.keepIn K (.ref f)=true) (n:PySem.W.isFn K (.ref f)=true):uB K x e st f:=⟨⟨_,zI l c k⟩,n⟩
variable{qual:Str}{Cc:Vr}
def lJ{P:Vt}{w:Vu}{mg:Str->Option Vq}{base:Heap}{k:Nat}{e:Vx}{sp:Sp}(a:PySem.W.findIn K (.ref Cc) x=some (some<|.ref f))(D:uB K x qual st f)
  (ok:∀q,Qj K x qual st f q->P7 P w K mg base ce k f q e sp)
  (O:∀(kV doc pm:Vq)(z:Option Vr)(Of ct:Vq)(t:List Vq),t.length=e.length->bindArgs (PySem.W.fnOf x qual (cY st) (cq st) (aj st) .none kV doc pm z Of ct) ⟨t,[]⟩=pure (e.zip t):=by intro _ _ _ _ _ _;first|exact u0 rfl|exact u1 λ_=>rfl|exact u2 λ_ _=>rfl|exact u3 λ_ _ _=>rfl|exact u4 λ_ _ _ _=>rfl|exact u5 λ_ _ _ _ _=>rfl|exact u8 λ_ _ _ _ _ _ _ _=>rfl):nv P w K mg base Cc x k e sp:=by
 obtain⟨⟨q,F⟩,n⟩:=D;exact⟨f,q,⟨a,n,F.kp⟩,ok q F,F.binds O⟩
def CB{P:Vt}{w:Vu}{mg:Str->Option Vq}{base:Heap}{e:Vx}{sp:Sp}(D:uB K x qual st f)
  (ok:∀q,Qj K x qual st f q->P7 P w K mg base ce 1 f q e sp)
  (O:∀(kV doc pm:Vq)(z:Option Vr)(Of ct:Vq)(t:List Vq),t.length=e.length->bindArgs (PySem.W.fnOf x qual (cY st) (cq st) (aj st) .none kV doc pm z Of ct) ⟨t,[]⟩=pure (e.zip t):=by intro _ _ _ _ _ _;first|exact u0 rfl|exact u1 λ_=>rfl|exact u2 λ_ _=>rfl|exact u3 λ_ _ _=>rfl|exact u4 λ_ _ _ _=>rfl|exact u5 λ_ _ _ _ _=>rfl|exact u8 λ_ _ _ _ _ _ _ _=>rfl):∃q,P7 P w K mg base ce 1 f q e sp/\Qk K q e []:=by
 obtain⟨⟨q,F⟩,n⟩:=D;exact⟨q,ok q F,F.binds O⟩
def rR{P:Vt}{w:Vu}{mg:Str->Option Vq}{base:Heap}{k:Nat}{e:Vx}{sp:Sp}(a:PySem.W.findIn K (.ref Cc) x=some (some<|.ref f))(D:uB K x qual st f)
  (ok:∀q,Qj K x qual st f q->P7 P w K mg base (ku P w) k f q e sp)
  (O:∀(kV doc pm:Vq)(z:Option Vr)(Of ct:Vq)(t:List Vq),t.length=e.length->bindArgs (PySem.W.fnOf x qual (cY st) (cq st) (aj st) .none kV doc pm z Of ct) ⟨t,[]⟩=pure (e.zip t):=by intro _ _ _ _ _ _;first|exact u0 rfl|exact u1 λ_=>rfl|exact u2 λ_ _=>rfl|exact u3 λ_ _ _=>rfl|exact u4 λ_ _ _ _=>rfl|exact u5 λ_ _ _ _ _=>rfl|exact u8 λ_ _ _ _ _ _ _ _=>rfl):rN P w K mg base Cc x k e sp:=by
 obtain⟨⟨q,F⟩,n⟩:=D;exact⟨f,q,⟨a,n,F.kp⟩,ok q F,F.binds O⟩
structure JY(K:ZF)(nm:Str)(bm:List Vq)(C:Vr):Prop where
 ns:PySem.W.nsIn K mainGlobals nm=some (some<|.ref C)
 c:XC K C nm bm
def HB{nm:Str}{z:List Vq}{C:Vr}{q:Str}{N:Vr}{bs:List Vq}{J:Vx}{sub:List Vq}{O:Bool}{col:Option Bool}{I:Option Vr}{D L k2 Y G:Option Vq}(tl:XB.Tail z)(a:PySem.W.nsIn K mainGlobals nm=some (some<|.ref C))(l:K.lookup C=some (excClassObj nm q C N bs z true J sub O col I D L k2 Y G "ValueError.__new__"))
  (Z:PySem.W.findIn K (.ref C) "__getattribute__"=some (some<|.builtin "BaseException.__getattribute__")) (g2:PySem.W.findIn K (.ref C) "__getattr__"=some none) (g3:PySem.W.findIn K (.ref C) "__setattr__"=some (some<|.builtin "object.__setattr__")) (g4:PySem.W.findIn K (.ref C) "__class__"=some (some<|.builtin "object.__class__")):JY K nm z C:=
 ⟨a,⟨tl,⟨q,N,bs,J,sub,O,col,I,D,L,k2,Y,G,l⟩,Z,g2,g3,g4⟩⟩
def LZ:XB.Tail XB.bmV:=.inl rfl
variable{R:Vr}
def L4:XB.Tail (pO R):=.inr ⟨R,U⟩
def CC{P:Vt}{w:Vu}{e h:Heap}{k:Nat}{t:Vx}{sp:Sp}(X:K.In h)(G:h.Ns mainGlobals mg)(D:aW K x st f)
  (ok:∀q,Qj K x x st f q->P7 P w K mg e (ku P w) k f q t sp)
  (O:∀(kV doc pm:Vq)(z:Option Vr)(Of ct:Vq)(o:List Vq),o.length=t.length->bindArgs (PySem.W.fnOf x x (cY st) (cq st) (aj st) .none kV doc pm z Of ct) ⟨o,[]⟩=pure (t.zip o):=by intro _ _ _ _ _ _;first|exact u0 rfl|exact u1 λ_=>rfl|exact u2 λ_ _=>rfl|exact u3 λ_ _ _=>rfl|exact u4 λ_ _ _ _=>rfl|exact u5 λ_ _ _ _ _=>rfl|exact u8 λ_ _ _ _ _ _ _ _=>rfl):SA P w K mg e x k t sp:=by
 obtain⟨a,q,F⟩:=D;exact⟨f,q,ML X G a,F.kp,F.binds O,ok q F⟩
def Q7(K:ZF)(c:Vr):Vx->Prop
 |[]=>True
 |f::r=>Qm K c f/\Q7 K c r
variable{c:Vr}
def Q7.get:∀{l:Vx},Q7 K c l->∀f∈l,Qm K c f
 |[],_,f,q=>absurd q (by simp)
 |g::r,h,f,q=>by
  rcases Mo.mp q with rfl|q
  ·exact h.1
  ·exact Q7.get h.2 f q
structure CK(K:ZF)(n:Str)(c i:Vr)(fl:Vx):Prop where
 ns:PySem.W.nsIn K mainGlobals n=some (some<|.ref c)
 cls:R0 K c
 na:Q7 K c fl
 mk_:Mk K c i
def FF{n:Str}{c i:Vr}{q:Vx}(ns:PySem.W.nsIn K mainGlobals n=some (some<|.ref c))(z:PySem.W.plainGet K c Str.empty=true)(O:PySem.W.hasDictIn K c=true)(I:PySem.W.plainOver K c=true)
  (D:PySem.W.findIn K (.ref c) "__setattr__"=some (some<|.builtin "object.__setattr__")) (L:PySem.W.makesIn K c=true) (Y:PySem.W.findIn K (.ref c) "__init__"=some (some<|.ref i)) (G:PySem.W.isFn K (.ref i)=true) (J:PySem.W.keepIn K (.ref c)=true) (Z:Q7 K c q):CK K n c i q:=
 ⟨ns,⟨z,O,I,D⟩,Z,⟨L,Y,G,J⟩⟩
variable{a b d:Str}
def L9(x:PySem.W.findIn K (.ref c) a=some none)(y:PySem.W.findIn K (.ref c) b=some none)(z:PySem.W.findIn K (.ref c) d=some none):Q7 K c [a,b,d]:=⟨x,y,z,trivial⟩
def Ma{a b d e f g h i:Str}(x:PySem.W.findIn K (.ref c) a=some none)(y:PySem.W.findIn K (.ref c) b=some none)(z:PySem.W.findIn K (.ref c) d=some none)(u:PySem.W.findIn K (.ref c) e=some none)(q:PySem.W.findIn K (.ref c) f=some none)(O:PySem.W.findIn K (.ref c) g=some none)(I:PySem.W.findIn K (.ref c) h=some none)(u1:PySem.W.findIn K (.ref c) i=some none):Q7 K c [a,b,d,e,f,g,h,i]:=⟨x,y,z,u,q,O,I,u1,trivial⟩
def dQ:∀(e:Vx)(o:List Tok),o.length=e.length->Qb (e.map V.str) ((e.zip o).map λp=>Value.str p.1 p.2)
 |[],_,_=>.nil
 |z::r,[],h=>by cases h
 |z::r,t::u,h=>.cons ⟨t,U⟩ (dQ r u<|by simpa using h)
def HE{w:Vu}{K:ZF}{a q z O I D L Y G J:Vr}{e t Z t4 t5 t6 t7 t8 t9:Tok}{ep:Nat}
  (h:K.lookup a=some {cls:=.type "dict",data:=.dict #[⟨PyData.keyHash w.params "+",.str "+" e,.ref q⟩,⟨PyData.keyHash w.params "-",.str "-" t,.ref z⟩,⟨PyData.keyHash w.params "&",.str "&" Z,.ref O⟩,⟨PyData.keyHash w.params "|",.str "|" t4,.ref I⟩,⟨PyData.keyHash w.params "^",.str "^" t5,.ref D⟩,
   ⟨PyData.keyHash w.params "<<",.str "<<" t6,.ref L⟩,⟨PyData.keyHash w.params ">>",.str ">>" t7,.ref Y⟩,⟨PyData.keyHash w.params "<",.str "<" t8,.ref G⟩,⟨PyData.keyHash w.params "=",.str "=" t9,.ref J⟩] ep}) :
  lX w K a [("+",.ref q),("-",.ref z),("&",.ref O),("|",.ref I),("^",.ref D),("<<",.ref L),(">>",.ref Y),("<",.ref G),("=",.ref J)]:=
 ⟨_,ep,h,.cons ⟨U,⟨_,U⟩,U⟩<|.cons ⟨U,⟨_,U⟩,U⟩<|.cons ⟨U,⟨_,U⟩,U⟩<|.cons ⟨U,⟨_,U⟩,U⟩<|.cons ⟨U,⟨_,U⟩,U⟩<|.cons ⟨U,⟨_,U⟩,U⟩<|.cons ⟨U,⟨_,U⟩,U⟩<|.cons ⟨U,⟨_,U⟩,U⟩<|.cons ⟨U,⟨_,U⟩,U⟩ .nil⟩
variable{w:Vu}
def eI{P:Vt}{e:Heap}{j k:Nat}{t:Vx}{sp:Sp}(h:Fn P w K mg e x j t sp)(z:j<=k):Fn P w K mg e x k t sp:=by obtain⟨f,q,a,b,c,d⟩:=h;exact ⟨f,q,a,b,c,d.mono z⟩
def rS{a:Vr}{e t t3 t4 t5 t6 t7 t8 t9 q YN z O I D L Y G J Z ee et:Tok}{n:Nat}(h:K.lookup a=some {cls:=.type "tuple",data:=.seq #[.str UI e,.str Uo t,.str Uq t3,.str Ul t4,.str Up t5,.str UD t6,.str Uv t7,.str Uh t8,.str Uk t9,.str "number" q,.str U3 YN,.str "set" z,.str Vf O,.str Vb I,.str UW D,.str UJ L,.str U4 Y,.str Uz G,.str UN J,.str UO Z,.str Ut ee,.str "bell" et] n}):∀H,P5 K H a (am Q0):=λH=>
 .inr ⟨_,_,n,h,U,U,Qa,dQ [UI,Uo,Uq,Ul,Up,UD,Uv,Uh,Uk,"number",U3,"set",Vf,Vb,UW,UJ,U4,Uz,UN,UO,Ut,"bell"] [e,t,t3,t4,t5,t6,t7,t8,t9,q,YN,z,O,I,D,L,Y,G,J,Z,ee,et] U⟩
def CD{a:Vr}{e t q z:Tok}{n:Nat}(h:K.lookup a=some {cls:=.type "tuple",data:=.seq #[.str Uh e,.str Uk t,.str "number" q,.str U3 z] n}):∀H,P5 K H a (am ef):=λH=>
 .inr ⟨_,_,n,h,U,U,Qa,dQ [Uh,Uk,"number",U3] [e,t,q,z] U⟩
def EJ{a:Vr}{e t q z O I:Tok}{n:Nat}(h:K.lookup a=some {cls:=.type "tuple",data:=.seq #[.str UJ e,.str U4 t,.str Uz q,.str UN z,.str UO O,.str Ut I] n}):∀H,P5 K H a (am [UJ,U4,Uz,UN,UO,Ut]):=λH=>
 .inr ⟨_,_,n,h,U,U,Qa,dQ [UJ,U4,Uz,UN,UO,Ut] [e,t,q,z,O,I] U⟩
def oS{a:Vr}{e t:Tok}{n:Nat}(h:K.lookup a=some {cls:=.type "tuple",data:=.seq #[.str Vg e,.str Vh t] n}):∀H,P5 K H a (am [Vg,Vh]):=λH=>
 .inr ⟨_,_,n,h,U,U,Qa,dQ [Vg,Vh] [e,t] U⟩
def lS{a:Vr}{e t:Tok}{n:Nat}(h:K.lookup a=some {cls:=.type "tuple",data:=.seq #[.str "<<" e,.str ">>" t] n}):∀H,P5 K H a ([.str "<<",.str ">>"]):=λH=>
 .inr ⟨_,_,n,h,U,U,Qa,dQ ["<<",">>"] [e,t] U⟩
def rT{a:Vr}{e t q:Tok}{n:Nat}(h:K.lookup a=some {cls:=.type "tuple",data:=.seq #[.str "number" e,.str U7 t,.str Uh q] n}):∀H,P5 K H a (am HR):=λH=>
 .inr ⟨_,_,n,h,U,U,Qa,dQ ["number",U7,Uh] [e,t,q] U⟩
def wH{a:Vr}{e t q z:Tok}{n:Nat}(h:K.lookup a=some {cls:=.type "tuple",data:=.seq #[.str "number" e,.str U7 t,.str Uh q,.str Uk z] n}):∀H,P5 K H a (am HS):=λH=>
 .inr ⟨_,_,n,h,U,U,Qa,dQ ["number",U7,Uh,Uk] [e,t,q,z] U⟩
def HF{l:PySem.W.OpenLaw}{w:Vu}{h:Heap}{fa z f1 f2 f3 f4 f5 f6 f7 f8 f9 s1 s2 s3 s4 s5 s6 s7 s8 s9 he M ho hi hn hs hh hl hu hm hf hw hy hp hv hg hk hj hq hx hz hE hT hA hO hN hS hH hR hD hL hU hC hM hF hW hY hP hV hB hG hK hJ hQ Y iR L iT O2 O7 O3 O5 O6 O4 O1 O0 OZ Oy OA Ow Ox Ov Ou Oz aO e1 e2 N e4 e5 e6 e7 e8 e9 R fR cK fK cX cN c T:Vr}{OT ON OX OU OR OV OQ OO OW OK OM OL OY:Tok}(X:K.In h)(G:h.Ns mainGlobals mg)(hX:mg "law"=some (.ref fa))(ht:PySem.W.tabIn K "_law_right"=some (c,T))
  (d0:aW K "number_of" iE z)
  (d1:aW K "is_whole" uY f1)
  (d2:aW K "is_within" qh f2)
  (d3:aW K "is_name" pj f3)
  (d4:aW K "ops_told" Gc f4)
  (d5:aW K "read_form" kL f5)
  (d6:aW K "read_bounded" gG f6)
  (d7:aW K "read_names" je f7)
  (d8:aW K "read_kind" kM f8)
  (d9:aW K "read_fields" ik f9)
  (nb:aW K "read_field" jf s1)
  (el:aW K "read_body" kN s2)
  (ec:aW K "read_choice" il s3)
  (ng:aW K "read_test" kO s4)
  (nk:aW K "read_leaf" iF s5)
  (nz:aW K "read_set" m8 s6)
  (nT:aW K "read_end" nh s7)
  (ew:aW K "read_expression" kP s8)
  (ey:aW K "read_cell" kQ s9)
  (ev:aW K "read_two" ni he)
  (nH:aW K "table_of_form" gH M)
  (nD:aW K "add_name" nj ho)
  (nL:aW K "need_known" jg hi)
  (nM:aW K "kinds_named" im hn)
  (nP:aW K "names_with_fields" jh hs)
  (J:aW K "deed_of" md hh)
  (n1:aW K "test_of" qi hl)
  (n2:aW K "set_of" uZ hu)
  (n3:aW K "end_of" u7 hm)
  (ee:aW K "expression_of" qj hf)
  (n4:aW K "tokens_of" qk hw)
  (n5:aW K "sign_at" z4 hy)
  (n6:aW K "run_at" Gd hp)
  (n7:aW K "read_table" ji hv)
  (n8:aW K "_law_cell" z5 hg)
  (n9:aW K "_law_stream" ql hk)
  (n':aW K "_law_take" z6 hj)
  (se:aW K "_law_names" u9 hq)
  (sa:aW K "_law_sel" wX hx)
  (si:aW K "_law_atom" qm hz)
  (sn:aW K "_law_address" qu hE)
  (eb:aW K "_law_sum" z7 hT)
  (ss:aW K "_law_plain_sets" qo hA)
  (sd:aW K "_law_end" wY hO)
  (sl:aW K "_law_test" vk hN)
  (eg:aW K "_law_plain_deed" vf hS)
  (sm:aW K "_law_plain_table" qp hH)
  (sv:aW K "_law_sel_text" nq hR)
  (et:aW K "_law_expr_text" kR hD)
  (ea:aW K "_law_deed_text" kU hL)
  (sb:aW K "_law_text" jk hU)
  (ei:aW K "leaves_of" qr hC)
  (sg:aW K "is_plain" jJ hM)
  (sk:aW K "is_plain_set" vi hF)
  (en:aW K "is_sum" vj hW)
  (sq:aW K "chosen_of" mh hY)
  (sT:aW K "numbers_for" qt hP)
  (sA:aW K "_law_odd_set" z8 hV)
  (t:aW K "_law_spoilt" jK hB)
  (sH:aW K "_law_all_chosen" mj hG)
  (sL:aW K "_law_refused" nr hK)
  (i:aW K "_law_right" cZ hJ)
  (s0:aW K "law" vh hQ)
  (CR:CK K "Reader" Y iR [UM,Vj,"may_end"]) (IR:uB K "__init__" "Reader.__init__" vQ iR)
  (CT:CK K "Table" L iT [Uj,Uo,Uq,Ul,Up,UD,UE,UC]) (IT:uB K "__init__" "Table.__init__" qO iT)
  (OE:PySem.W.findIn K (.ref Y) "look"=some (some<|.ref O2)) (On:uB K "look" "Reader.look" Ab O2)
  (OJ:PySem.W.findIn K (.ref Y) "take"=some (some<|.ref O7)) (Ot:uB K "take" "Reader.take" KO O7)
  (OF:PySem.W.findIn K (.ref Y) "need"=some (some<|.ref O3)) (Oo:uB K "need" "Reader.need" Ac O3)
  (OH:PySem.W.findIn K (.ref Y) "need_name"=some (some<|.ref O5)) (Oq:uB K "need_name" "Reader.need_name" kX O5)
  (OI:PySem.W.findIn K (.ref Y) "need_number"=some (some<|.ref O6)) (Os:uB K "need_number" "Reader.need_number" io O6)
  (OG:PySem.W.findIn K (.ref Y) "need_end"=some (some<|.ref O4)) (Op:uB K "need_end" "Reader.need_end" nA O4)
  (OD:PySem.W.findIn K (.ref L) "kind_at"=some (some<|.ref O1)) (Om:uB K "kind_at" "Table.kind_at" qQ O1)
  (OC:PySem.W.findIn K (.ref L) "fields_of"=some (some<|.ref O0)) (Ol:uB K "fields_of" "Table.fields_of" lB O0)
  (OB:PySem.W.findIn K (.ref L) Vd=some (some<|.ref OZ)) (Oj:uB K Vd "Table.deed" AM OZ)
  (Pk:PySem.W.nsIn K mainGlobals "MOST_FIGURES"=some (some<|.int 9 OT))
  (Pe:PySem.W.nsIn K mainGlobals "LONGEST_NAME"=some (some<|.int 8 ON))
  (Po:PySem.W.nsIn K mainGlobals "MOST_TOKENS"=some (some<|.int 1500 OX))
  (Pl:PySem.W.nsIn K mainGlobals "MOST_KINDS"=some (some<|.int 8 OU))
  (Pj:PySem.W.nsIn K mainGlobals "MOST_FIELDS"=some (some<|.int 3 OR))
  (Pm:PySem.W.nsIn K mainGlobals "MOST_SETS"=some (some<|.int 4 OV))
  (Ph:PySem.W.nsIn K mainGlobals "MOST_CHOICES"=some (some<|.int 3 OQ))
  (Pg:PySem.W.nsIn K mainGlobals "MOST_BRACKETS"=some (some<|.int 3 OO))
  (Pn:PySem.W.nsIn K mainGlobals "MOST_SIGNS"=some (some<|.int 20000 OW))
  (Pb:PySem.W.nsIn K mainGlobals "FIGURES"=some (some<|.str "0123456789" OK))
  (Pd:PySem.W.nsIn K mainGlobals "LETTERS"=some (some<|.str "abcdefghijklmnopqrstuvwxyz" OM))
  (Pc:PySem.W.nsIn K mainGlobals "GAPS"=some (some<|.str " \n" OL))
  (Pu:PySem.W.nsIn K mainGlobals "SINGLE_SIGNS"=some (some<|.str "(){}[],;+-&|^<=" OY))
  (Pr:PySem.W.nsIn K mainGlobals "OWN_WORDS"=some (some<|.ref Oy)) (PD:∀H,P5 K H Oy<|am Q0)
  (Pw:PySem.W.nsIn K mainGlobals "SORTS"=some (some<|.ref OA)) (PJ:∀H,P5 K H OA<|am ef)
  (Pa:PySem.W.nsIn K mainGlobals "ENDS"=some (some<|.ref Ow)) (Pz:∀H,P5 K H Ow<|am [UJ,U4,Uz,UN,UO,Ut])
  (Pq:PySem.W.nsIn K mainGlobals "OWN_FAULTS"=some (some<|.ref Ox)) (PB:∀H,P5 K H Ox<|am [Vg,Vh])
  (O9:PySem.W.nsIn K mainGlobals "DOUBLE_SIGNS"=some (some<|.ref Ov)) (Py:∀H,P5 K H Ov<|[.str "<<",.str ">>"])
  (O8:PySem.W.nsIn K mainGlobals "ADDRESSES"=some (some<|.ref Ou)) (Px:∀H,P5 K H Ou<|am HR)
  (Ps:PySem.W.nsIn K mainGlobals "SINGLES"=some (some<|.ref Oz)) (PH:∀H,P5 K H Oz<|am HS)
  (Pp:PySem.W.nsIn K mainGlobals "OPS"=some (some<|.ref aO)) (dO:lX w K aO [("+",.ref e1),("-",.ref e2),("&",.ref N),("|",.ref e4),("^",.ref e5),("<<",.ref e6),(">>",.ref e7),("<",.ref e8),("=",.ref e9)]) (lo:(aO==sysModules)=false)
  (xR:JY K "RowsError" XB.bmV R) (rd:PySem.W.readsIn K R (.type "type")=true) (ri:PySem.W.findCls K (.ref R) (.type "type") "__init__"=some (.val<|.ref fR)) (mR:uB K "__init__" "RowsError.__init__" rL fR)
  (xK:JY K "NoKind" (pO R) cK) (aK:PySem.W.findIn K (.ref cK) "name"=some none) (iK:PySem.W.findIn K (.ref cK) "__init__"=some (some<|.ref fK)) (nK:PySem.W.isFn K (.ref fK)=true) (pK:PySem.W.keepIn K (.ref cK)=true) (mK:uB K "__init__" "NoKind.__init__" rM fK)
  (xT:JY K "NotPlain" (pO R) cX) (xN:JY K "NoName" (pO R) cN)
  (PR:PySem.W.nsIn K mainGlobals "len"=some none)
  (PP:PySem.W.nsIn K mainGlobals "int"=some none)
  (PV:PySem.W.nsIn K mainGlobals "max"=some none)
  (PX:PySem.W.nsIn K mainGlobals "min"=some none)
  (PY:PySem.W.nsIn K mainGlobals "range"=some none)
  (PQ:PySem.W.nsIn K mainGlobals "isinstance"=some none)
  (PU:PySem.W.nsIn K mainGlobals "list"=some none)
  (PZ:PySem.W.nsIn K mainGlobals "str"=some none)
  (PL:PySem.W.nsIn K mainGlobals "bool"=some none)
  (P0:PySem.W.nsIn K mainGlobals "tuple"=some none)
  (PK:PySem.W.nsIn K mainGlobals "all"=some none)
  (PM:PySem.W.nsIn K mainGlobals "dict"=some none)
  (PN:PySem.W.nsIn K mainGlobals "enumerate"=some none)
  (P3:PySem.W.nsIn K mainGlobals "zip"=some none)
  (WA:PySem.W.nsIn K mainGlobals "ValueError"=some none) :
  ∃q:Vw,(∀(s:Vs)(v:Vq),BindsTo s q ⟨[v],[]⟩ [(UH,v)])/\∀base:Heap,K.In base->base.Ns mainGlobals mg->wv base mg c T->P7 l.prog w K mg base ce 28 fa q [UH] (wG K T):=by
 have B:Bl mg:=⟨MU X G PR,MU X G PP,MU X G PV,MU X G PX,MU X G PY,MU X G PQ,MU X G PU,MU X G PZ,MU X G PL,MU X G P0,MU X G PK⟩;have B3:Ff mg:=⟨MU X G PM,MU X G PN⟩;have Z:vK K mg OA Ow Ox OR OV OQ OU:=⟨(ML X G Pw),PJ,(ML X G Pa),Pz,(ML X G Pq),PB,(ML X G Pj),(ML X G Pm),(ML X G Ph),(ML X G Pl)⟩;have CN:Gk K mg Oy OM ON:=⟨(ML X G Pr),PD,(ML X G Pd),(ML X G Pe)⟩;have ek:Dp K mg Ov OL OY:=⟨(ML X G Pc),(ML X G Pu),(ML X G O9),Py,B.len⟩;have ZX:ZE mg OO:=⟨(ML X G Pg)⟩;have RC:Rc K Y:=⟨CR.cls,CR.na.1,CR.na.2.1,CR.na.2.2.1⟩;have TC:Tc K L:=⟨CT.cls,CT.na.get⟩;obtain⟨nl,q,F⟩:=s0;have e:=hX.symm.trans (ML X G nl);cases e;obtain⟨oc,od,kV,doc,pm,an,Of,ct,Wl,rfl,lk,V9⟩:=id F.ex;refine⟨PySem.W.fnOf "law" "law" (cY vh) (cq vh) (aj vh) .none kV doc pm an Of ct,λs v=>.of_eq U,λbase _ _ LC=>?_⟩;have z {x:Str} {st:Stmt} {f:Vr} {k:Nat} {ps:Vx} {sp:Sp} (D:aW K x st f) (ok:∀q,Qj K x x st f q->P7 l.prog w K mg base ce k f q ps sp) (hb:∀(kV doc pm:Vq)(an:Option Vr)(Of ct:Vq)(o:List Vq),o.length=ps.length->bindArgs (PySem.W.fnOf x x (cY st) (cq st) (aj st) .none kV doc pm an Of ct) ⟨o,[]⟩=pure (ps.zip o):=by intro _ _ _ _ _ _;first|exact u0 rfl|exact u1 λ_=>rfl|exact u2 λ_ _=>rfl|exact u3 λ_ _ _=>rfl|exact u4 λ_ _ _ _=>rfl|exact u5 λ_ _ _ _ _=>rfl|exact u8 λ_ _ _ _ _ _ _ _=>rfl):=JX (P:=l.prog) (w:=w) (base:=base) (x:=x) (st:=st) (f:=f) (k:=k) (ps:=ps) (sp:=sp) X G D ok hb;have WH:=z d1 (λq F=>Ae F B);have WI:=z d2 (λq F=>yz F WH);have NM:=z d3 (λq F=>Dk F B CN);have er:=z d3 (λq F=>Am F B CN);have NU:=z d0 (λq F=>sY F B (ML X G Pb)<|ML X G Pk);have RM:Rm l.prog w K mg base Y:=⟨RC,(lJ (P:=l.prog) (w:=w) (mg:=mg) (base:=base) OE On λq F=>Dg F RC),(lJ (P:=l.prog) (w:=w) (mg:=mg) (base:=base) OJ Ot λq F=>IM F RC)⟩;have O:uD l.prog w K mg base Y:=⟨RM,(lJ (P:=l.prog) (w:=w) (mg:=mg) (base:=base) OF Oo λq F=>Dh F RM),(lJ (P:=l.prog) (w:=w) (mg:=mg) (base:=base) OH Oq λq F=>sU F RM NM),(lJ (P:=l.prog) (w:=w) (mg:=mg) (base:=base) OI Os λq F=>oQ F RM NU WI),(lJ (P:=l.prog) (w:=w) (mg:=mg) (base:=base) OG Op λq F=>vD F RM B)⟩;obtain⟨h8,aA,nm⟩:=CB (P:=l.prog) (w:=w) (mg:=mg) (base:=base) IR (λq F=>Ay F RC B<|ML X G Po);obtain⟨h9,aS,nf⟩:=CB (P:=l.prog) (w:=w) (mg:=mg) (base:=base) IT (λq F=>AH F TC B);have BO:=z d6 (λq F=>vF F O);have NA:=z d7 (λq F=>Ag F O B);have FL:=z nb (λq F=>Ap F O Z);have ER:=z nT (λq F=>Dx F O Z);have FS:=z d9 (λq F=>yD F O Z B FL);have TE:=z ng (λq F=>Aw F O);have OP:=z d4 (λq F=>Gz F B (ML X G Pp) dO U lo);have tp:Fn l.prog w K mg base "read_cell" 3 [Um,Uj,UF] (qB Y 0):=z ey (λq F=>dB);have o':Fn l.prog w K mg base "read_two" 3 [Um,Uj,UF] (vJ Y 0):=z ev (λq F=>dB);have eS:=z ew (λq F=>ml F O ZX er tp o' zd);have tv:=z ey (λq F=>nE F O eS zd);have ih:=z ev (λq F=>qD F O eS OP zd);have eH:=z ew (λq F=>ml F O ZX er tv ih zd);have tb:=z ey (λq F=>nE F O eH zd);have iv:=z ev (λq F=>qD F O eH OP zd);have eL:=z ew (λq F=>ml F O ZX er tb iv zd);have tg:=z ey (λq F=>nE F O eL zd);have i5:=z ev (λq F=>qD F O eL OP zd);have av:=z ew (λq F=>ml F O ZX er tg i5 zd);have SR:=z nz (λq F=>Dy F O av zd);have LF:=z nk (λq F=>Av F O Z B SR ER zd);have tk:Fn l.prog w K mg base "read_choice" 12 [Um,Uj,UY] (lj Y 0):=z ec (λq F=>dB);have tn:=z el (λq F=>jQ F O Z tk (eI (k:=12) LF zd) zd);have tx:=z ec (λq F=>jo F O TE tn zd);have tr:=z el (λq F=>jQ F O Z tx (eI (k:=14) LF zd) zd);have tT:=z ec (λq F=>jo F O TE tr zd);have tc:=z el (λq F=>jQ F O Z tT (eI (k:=16) LF zd) zd);have tA:=z ec (λq F=>jo F O TE tc zd);have tm:=z el (λq F=>jQ F O Z tA (eI (k:=18) LF zd) zd);have KD:=z d8 (λq F=>DD F O FS tm zd);have RF:=z d5 (λq F=>DH F O Z B CR.mk_ (ML X G CR.ns) aA nm BO NA KD zd);have AN:=z nD (λq F=>vS F);have NK:=z nL (λq F=>qK F);have NW:=z nP (λq F=>GA F B3 AN);have i':Fn l.prog w K mg base "expression_of" 1 [Us,"e"] (qM 0):=z ee (λq F=>dB);have nt:=z ee (λq F=>mq F NK i' zd);have no:=z ee (λq F=>mq F NK nt zd);have nn:=z ee (λq F=>mq F NK no zd);have nd:=z ee (λq F=>mq F NK nn zd);have SO:=z n2 (λq F=>AF F NK nd zd);have TT:=z n1 (λq F=>yG F NK);have EO:=z n3 (λq F=>yH F NK);have tL:Fn l.prog w K mg base "deed_of" 6 [Us,Vp] (jR 3 0):=z J (λq F=>dB);have tM:=z J (λq F=>iI F B TT EO (eI (k:=6) SO zd) tL zd);have tF:=z J (λq F=>iI F B TT EO (eI (k:=7) SO zd) tM zd);have tP:=z J (λq F=>iI F B TT EO (eI (k:=8) SO zd) tF zd);have tG:=z J (λq F=>iI F B TT EO (eI (k:=9) SO zd) tP zd);have KN:=z nM (λq F=>Ja F B NW tG zd);have TF:=z nH (λq F=>Jc F B B3 CT.mk_ (ML X G CT.ns) aS nf AN NK KN zd);have SG:=z n5 (λq F=>Ds F ek);have RN:=z n6 (λq F=>Gr F ek SG);have TO:=z n4 (λq F=>Du F ek SG RN);have RT:=z n7 (λq F=>Jd F B (ML X G Pn) TO RF TF zd zd);have ed:Xs K mg R fR cK fK cX cN:=⟨xR.c,xK.c,xT.c,xN.c,aK,⟨iK,nK,pK⟩,⟨rd,ri,mR.fu.elim λ_ F=>F.kp⟩,ML X G xR.ns,ML X G xK.ns,ML X G xT.ns,ML X G xN.ns,MU X G WA⟩;have j:Kd l.prog w K mg base fR:=by
  obtain⟨⟨q,F⟩,_⟩:=mR;exact⟨q,F.binds (λ_ _ _ _ _ _=>by exact u2 λ_ _=>rfl),JC F ed⟩
 obtain⟨⟨h7,eF⟩,_⟩:=id mK;have tf:=eF.binds (ps:=[Ui,"name"]) (λ_ _ _ _ _ _=>by exact u2 λ_ _=>rfl);have ab:=JD (P:=l.prog) (w:=w) (base:=base) eF ed j;have e0:rN l.prog w K mg base L "kind_at" 4 [Ui,Uv] (kh K L cK):=(rR (P:=l.prog) (w:=w) (mg:=mg) (base:=base) OD Om λq F=>Cf F TC ed ab tf);have aE:rN l.prog w K mg base L "fields_of" 5 [Ui,Uv] (xY K L cK):=(rR (P:=l.prog) (w:=w) (mg:=mg) (base:=base) OC Ol λq F=>Hn F TC e0);have tS:rN l.prog w K mg base L Vd 5 [Ui,Uv] (mH K L cK):=(rR (P:=l.prog) (w:=w) (mg:=mg) (base:=base) OB Oj λq F=>Cg F TC e0);have CL:=z n8 (λq F=>De F B);have ST:=z n9 (λq F=>yy F B);have I:=z n' (λq F=>Df F);have LN:=z se (λq F=>yJ F B I);have SL:=z sa (λq F=>DP F B B3 I);have AT:=z si (λq F=>A2 F B B3 I SL);have AD:=z sn (λq F=>A3 F B B3 I SL);have a8:Fn l.prog w K mg base "_law_sum" 3 [Ue,Ug,Uf,U8] (qU 0):=z eb (λq F=>dB);have a9:=z eb (λq F=>qV F I AT AD a8 zd);have a':=z eb (λq F=>qV F I AT AD a9 zd);have oe:=z eb (λq F=>qV F I AT AD a' zd);have eT:=z ss (λq F=>A8 F B I SL AT AD oe zd);have ez:=z sd (λq F=>DW F B B3 I);have eN:=z sl (λq F=>A9 F B I SL);have p:Fn l.prog w K mg base "_law_plain_deed" 8 [Ue,Ug,Uf,UT] (mB 0):=z eg (λq F=>dB);have a4:=z eg (λq F=>n0 F I (eI (k:=8) eT zd) ez eN p zd);have a5:=z eg (λq F=>n0 F I (eI (k:=9) eT zd) ez eN a4 zd);have a6:=z eg (λq F=>n0 F I (eI (k:=10) eT zd) ez eN a5 zd);have LT:=z sm (λq F=>DZ F B I LN a6 zd);have Zv:=z sv (λq F=>GT F);have t7:Fn l.prog w K mg base "_law_expr_text" 1 [Vi,Ug,Uf] (xC 0):=z et (λq F=>dB);have t8:=z et (λq F=>rj F B Zv t7 zd);have t9:=z et (λq F=>rj F B Zv t8 zd);have ac:=z et (λq F=>rj F B Zv t9 zd);have eh:=z et (λq F=>rj F B Zv ac zd);have t0:Fn l.prog w K mg base "_law_deed_text" 5 [Uu,Ug,Uf] (xD 0):=z ea (λq F=>dB);have t3:=z ea (λq F=>rl F B Zv (eI (k:=5) eh zd) t0 zd);have t4:=z ea (λq F=>rl F B Zv (eI (k:=6) eh zd) t3 zd);have t5:=z ea (λq F=>rl F B Zv (eI (k:=7) eh zd) t4 zd);have t6:=z ea (λq F=>rl F B Zv (eI (k:=8) eh zd) t5 zd);have TX:=z sb (λq F=>BL F B B3 t6 zd);have ZP:Ho K mg Ou Oz:=⟨(ML X G O8),Px,(ML X G Ps),PH⟩;have ol:Fn l.prog w K mg base "leaves_of" 1 [Vd] (kj 0):=z ei (λq F=>dB);have ow:=z ei (λq F=>iQ F ol);have op:=z ei (λq F=>iQ F ow);have ov:=z ei (λq F=>iQ F op);have ob:=z ei (λq F=>iQ F ov);have aF:Fn l.prog w K mg base "is_sum" 0 ["e"] (mJ 0):=z en (λq F=>dB);have aG:=z en (λq F=>km F ZP aF);have a0:=z en (λq F=>km F ZP aG);have r:=z en (λq F=>km F ZP a0);have m:=z en (λq F=>km F ZP r);have oT:=z sk (λq F=>Eu F ZP m);have NF:=z sT (λq F=>y6 F B TC);have aD:SA l.prog w K mg base "is_plain" 6 [UQ,Uv] (iS K L cK):=CC X G sg (λq F=>wD F B TC tS ob oT zd);have tN:SA l.prog w K mg base "chosen_of" 6 [UQ,Uv] (ko K L cK):=CC X G sq (λq F=>y8 F TC aE NF);have OS:=z sA (λq F=>Hv F B I SL);have oL:Fn l.prog w K mg base "_law_spoilt" 3 [Ue,Ug,Uf,Uu] (kq 0):=z t (λq F=>dB);have oP:=z t (λq F=>iU F B I OS oL zd);have o3:=z t (λq F=>iU F B I OS oP zd);have o4:=z t (λq F=>iU F B I OS o3 zd);have o5:=z t (λq F=>iU F B I OS o4 zd);have AC:=z sH (λq F=>Cp F B);have oI:=z sL (λq F=>wz (k:=7) F B ed);have a7:=z (k:=9) (ps:=[Ur,Ug,UL]) (sp:=EG L T) i (λq F=>by
  obtain⟨re,ra,h0,ti,h4,nc,tt,np,h6,rfl,C,h5⟩:=id F.ex;have hc:(PySem.W.fnOf "_law_right" "_law_right" (cY cZ) (cq cZ) (aj cZ) .none h0 ti h4 nc tt np).code=.ref c:=PySem.W.law_code X G ht (ML X G i.1) (X _ _ C) rfl;exact JV F hc LC B (MU X G P3) TC AC oI aD tN)
 exact EI F B (MU X G P3) CL ST I (eI (k:=27) LT zd) (eI (k:=27) TX zd) (eI (k:=27) RT zd) o5 a7 zd
end L3
namespace PySem.W.Fast
def t:=trivial
def tw2488125701656951005:=t
def tw1704423564174051677:=t
def tw16325022186338266721:=t
def tw3488222523411423087:=t
def tw2680514908114206889:=t
def tw910839890459737464:=t
def tw12813698486015481213:=t
def tw15712705746896025742:=t
def tw1136617771782819922:=t
def tw15777552590533808451:=t
def tw10920327557380382357:=t
def tw17863262928640979934:=t
def tw15410840941896189033:=t
def tw5933058421601020216:=t
def tw7900613072278726089:=t
def tw5775345430200478588:=t
def tw9495352237522290804:=t
def tw5228380407715715862:=t
def tw6868596579897793716:=t
def tw16228937356473445056:=t
def tw3073301154685935048:=t
def tw13632721553409132223:=t
def tw14555204609960092435:=t
def tw11574885686983086269:=t
def tw7001932824790232172:=t
def tw13765864713454976662:=t
def tw9724702356012399201:=t
def tw9734601348433066802:=t
def tw13930217513635705374:=t
def tw1609382510260666744:=t
def tw15696479356663888642:=t
def tw9822166377847026504:=t
def tw8691969812052696860:=t
def tw8405911666184114040:=t
def tw16826437899364769610:=t
def tw18107260140942755026:=t
def tw16348794675038407713:=t
def tw6576992372641142915:=t
def tw12392580025072786786:=t
def tw2399943980089383350:=t
def tw6345288706676660894:=t
def tw4152392567636484574:=t
def tw14761246358089048098:=t
def tw11113818733674500485:=t
def tw8914551452829558546:=t
def tw1227066986861987767:=t
def tw8108962224681858428:=t
def tw87854261289053134:=t
def tw14707363599608816159:=t
def tw12659741206858719298:=t
def tw15693533030903958364:=t
def tw7273617767216096301:=t
def tw17408627182256851811:=t
def tw2833020887311890108:=t
def tw6653431727577928176:=t
def tw13186530024547322111:=t
def tw7780756790036070311:=t
def tw18186545412585664876:=t
def tw16637997052116991729:=t
def tw4323596075792159944:=t
def tw11478193822975599023:=t
def tw11749109570815957660:=t
def tw11505604601607022546:=t
def tw1266564150984212482:=t
def tw8147142887500136303:=t
def tw3189077681907653002:=t
def tw3212792380286852585:=t
def tw10690869094858269024:=t
def tw5269313796604738933:=t
def tw17041266679695688003:=t
def tw12969713021233132497:=t
def tw8908194844704299220:=t
def tw10100836469651163824:=t
def tw13887233181079871368:=t
def tw17588839957078558686:=t
def tw18396433495360768359:=t
def tw15067236955936208609:=t
def tw11943948677396424264:=t
def tw15038732573225234569:=t
def tw1536568661437961505:=t
def tw3790368588158243720:=t
def tw13844860013046275570:=t
def tw11732043447138144791:=t
def tw12336966338034078711:=t
def tw429142068630303690:=t
def tw17655279039311596431:=t
def tw4947994054830540500:=t
def tw12145891575624980761:=t
def tw1295389188942975686:=t
def tw1288529843157097554:=t
def tw9598083818601918537:=t
def tw4490404985421563613:=t
def tw3967586401908125569:=t
def tw152621096457757233:=t
def tw18406244294895425382:=t
def tw16967307324387689727:=t
def tw7974066227596707814:=t
def tw15641552960456125455:=t
def tw15996890819609341547:=t
def tw1757743152856499435:=t
def tw14056815980499517734:=t
def tw8591101872443897603:=t
def tw14733627361014719371:=t
def tw3208875799840852735:=t
def tw13623240846160787316:=t
def tw7170937548935530624:=t
def tw6377043646970022258:=t
def tw18243307718184015587:=t
def tw5660097608127246428:=t
def tw7383035035266328577:=t
def tw17484751523945875109:=t
def tw17561512655734780557:=t
def tw18000070613067448381:=t
def tw4100317181519326731:=t
def tw14862770841010237020:=t
def tw12947671635691504634:=t
def tw7336957975522637156:=t
def tw17924466258469562073:=t
def tw13990651066643799341:=t
def tw6133572442484352397:=t
def tw16727715346971144022:=t
def tw13665438909158376779:=t
def tw11870025877769538816:=t
def tw949220041208846265:=t
def tw9168734709219499689:=t
def tw1712914561685341121:=t
def tw18029187376663715763:=t
def tw1001024659602083951:=t
def tw9991240876498309141:=t
def tw14127735323999636417:=t
def tw14734484425845061480:=t
def tw5469209075418435124:=t
def tw16979356193631998038:=t
def tw12170086708686113778:=t
def tw12093369995305383100:=t
def tw6354519056691648957:=t
def tw12686486798895764166:=t
def tw739152621983075564:=t
def tw15005003495441941572:=t
def tw6988573231708974959:=t
def tw17399398937227860815:=t
def tw11443498639313900966:=t
def tw9211738671762333400:=t
def tw2112265788886473655:=t
def tw7173860229413492448:=t
def tw2216877788262167024:=t
def tw17210176809980766107:=t
def tw11747253787241240546:=t
def tw2990265179751536410:=t
def tw4943024232140952804:=t
def tw7336026144065965198:=t
def tw7436130955024279616:=t
def tw13547951738768368072:=t
def tw11814985019358596420:=t
def tw9006658786550003577:=t
def tw449486058169853823:=t
def tw7978890638970342064:=t
def tw9619783395109293355:=t
def tw10442985315412580487:=t
def tw2906192999245652484:=t
def tw11954392790101549710:=t
def tw11416298552328833618:=t
def tw11456609368274556031:=t
def tw12311020775810624287:=t
def tw832856694666654591:=t
def tw15338770770081690512:=t
def tw1548549083878159956:=t
def tw4194931414750760961:=t
def tw15941150724521682984:=t
def tw9686724867775045409:=t
def tw2225956814776418130:=t
def tw18322351249958747078:=t
def tw3687381794856128:=t
def tw3419679542976901105:=t
def tw12586914893140908181:=t
def tw783936398551014491:=t
def tw7513425234958957216:=t
def tw7751182818869536307:=t
def tw13425240320931060054:=t
def tw18212298222322314134:=t
def tw3218690818455866893:=t
def tw346417453201944758:=t
def tw16229207939947339599:=t
def tw7822231191917584569:=t
def tw17186881835256909563:=t
def tw14781981702549175674:=t
def tw8925896059943588537:=t
def tw4848438153397529211:=t
def tw6434221758147342235:=t
def tw17883076052909426409:=t
def tw14500711878691166771:=t
def tw14888287563048002453:=t
def tw16517695403324955651:=t
def tw9068505340175423418:=t
def tw13861017111450034564:=t
def tw16908661102588635766:=t
def tw2382924148125175773:=t
def tw16441729104818133376:=t
def tw8518835504234122926:=t
def tw170805492996434046:=t
def tw18159278170258355141:=t
def tw17222816707601968341:=t
def tw17058462013869648841:=t
def tw12066337528910190493:=t
def tw13350537333109597301:=t
def tw18393859932271860305:=t
def tw159252698546251122:=t
def tw14743184747047676637:=t
def tw8413598675466786420:=t
def tw14541924162336875549:=t
def tw11878668183684727277:=t
def tw7579716784154243897:=t
def tw11565335683981811646:=t
def tw13494480247320914729:=t
def tw4937469047091441784:=t
def tw2166797470687427065:=t
def tw2100420825932104264:=t
def tw11442960777157008990:=t
def tw17564841284089535877:=t
def tw2537198988067847043:=t
def tw8437961659346816769:=t
def tw4580476001196009397:=t
def tw4238832755006264589:=t
def tw7866380553326051991:=t
def tw13787931043305818963:=t
def tw373367916637735894:=t
def tw17264340205346079354:=t
def tw13127088734902852167:=t
def tw11414925375962093535:=t
def tw15598915899306199646:=t
def tw15401704312856223671:=t
def tw15713774899526599702:=t
def tw6772151557906728726:=t
def tw5338419859460536742:=t
def tw1057426673636649297:=t
def tw2677818997517806690:=t
def tw5832955624228972992:=t
def tw10084694520545867099:=t
def tw8849253185116991621:=t
def tw9037147404281117933:=t
def tw2902963925421368794:=t
def tw10687960034432944992:=t
def tw6220817409057197898:=t
def tw16849712591985802519:=t
def tw3046927896566990835:=t
def tw12263052907159156314:=t
def tw17547184201629595765:=t
def tw4026119133135062287:=t
def tw15117685203831913:=t
def tw6800820043333192267:=t
def tw8462689952655649088:=t
def tw2366679398922370990:=t
def tw10806934292321337887:=t
def tw13916824281978819891:=t
def tw6932860342017918059:=t
def tw3335756999624847362:=t
def tw2197621252193485281:=t
def tw2132111259200676648:=t
def tw1856959700620602673:=t
def tw10979478445756215336:=t
def tw2981770892063370700:=t
def tw1850763520654635644:=t
def tw15974616977906010265:=t
def tw7992917221460419688:=t
def tw7342847503196941294:=t
def tw12603247576768564080:=t
def tw1178380498341434100:=t
def tw14588169556628149807:=t
def tw12570599589519373018:=t
def tw15887673372405195397:=t
def tw817396794471082383:=t
def tw2186395556765410283:=t
def tw16039428982530420118:=t
def tw18195556739236682408:=t
def tw3052171062979796886:=t
def tw1343738089454778984:=t
def tw9842371131042954749:=t
def tw10062542475042114206:=t
def tw8996755084378936790:=t
def tw1569283680134045651:=t
def tw15628708675590736086:=t
def tw9125927315739662994:=t
def tw18367517023471383229:=t
def tw8581315612432621303:=t
def tw15500329509642220726:=t
def tw16569316693161881167:=t
def tw4400689971051154890:=t
def tw6412914927588034338:=t
def tw5215944236708534971:=t
def tw4277061049273690461:=t
def tw5619029594391678349:=t
def tw14361419664584288134:=t
def tw607518869925071988:=t
def tw6606746621582136526:=t
def tw3362057776553908130:=t
def tw2575707999704949612:=t
def tw2450106982390205243:=t
def tw1308348074246438936:=t
def tw6297746974863113471:=t
def tw1653076616618498394:=t
def tw10929938506023956507:=t
def tw8948106909926563278:=t
def tw2736304288793360259:=t
def tw18433760630189990008:=t
def tw1268602946893710522:=t
def tw8970502032576240805:=t
def tw15888883020005271013:=t
def tw11818460582977912136:=t
def tw1820947438377513561:=t
def tw1412172509166504944:=t
def tw1257518264906592906:=t
def tw17821805075831320663:=t
def tw12515063374996600895:=t
def tw17788644242019971239:=t
def tw3684540991972432497:=t
def tw15980163996082935962:=t
def tw3435196698538808174:=t
def tw10342380612283270075:=t
def tw16851946844474010692:=t
def tw8531944191722804190:=t
def tw1787339387344191126:=t
def tw17836960114248921698:=t
def tw14465558073473888968:=t
def tw13461159311836031767:=t
def tw9846989065240727829:=t
def tw7733865995536728611:=t
def tw2332037176987687542:=t
def tw14779515830142605:=t
def tw14628143044247110315:=t
def tw13014959034261546173:=t
def tw1556523512274643069:=t
def tw7345444095046422165:=t
def tw7329261457412136454:=t
def tw13395425303190895333:=t
def tw9327131775346489264:=t
def tw5266776958183324526:=t
def tw4457067348187764906:=t
def tw1767603230408709853:=t
def tw17500034753202020487:=t
def tw6714462053199376527:=t
def tw3841610457052285003:=t
def tw16969396629310490585:=t
def tw16410274710985605080:=t
def tw10860528535584313136:=t
def tw8270600788887910472:=t
def tw16024269295688121555:=t
def tw15547765616043586000:=t
def tw14393869103152776812:=t
def tw10496027917425826679:=t
def tw7344980943692926351:=t
def tw7668779977728374162:=t
def tw16403228140485547740:=t
def tw18031392856957299783:=t
def tw14228057454142431564:=t
def tw11639266437964919011:=t
def tw11340273704694921169:=t
def tw7652066822531731585:=t
def tw16519010580469885207:=t
def tw12725375224099773613:=t
def tw14693846055519110445:=t
def tw11934119253579387965:=t
def tw6658263733330176598:=t
def tw5497574922478336649:=t
def tw143833602812349453:=t
def tw717066191703302175:=t
def tw15079225417875475516:=t
def tw7581241416847979235:=t
def tw7263428402390898424:=t
def tw7809525482798841883:=t
def tw5271837741715869126:=t
def tw9681166825065339847:=t
def tw3803196354632050197:=t
def tw8769722768226155920:=t
def tw3329623790152768894:=t
def tw17539941641497014432:=t
def tw14978293270170041247:=t
def tw7991860723854911265:=t
def tw3648505686029096176:=t
def tw17406051628950277553:=t
def tw7340621585606063557:=t
def tw11086226423375453429:=t
def tw8084699813862718331:=t
def tw4759677670950979769:=t
def tw8511588905532698085:=t
def tw5645764992378377225:=t
def tw449013105515455679:=t
def tw15807900448119159493:=t
def tw11444079128119343219:=t
def tw7711108398809753875:=t
def tw2302118365417752003:=t
def tw1944946849152781728:=t
def tw5214318947369374530:=t
def tw14252266910155094507:=t
def tw10440427722993574595:=t
def tw2366602669961210684:=t
def tw2263473349939273547:=t
def tw17222244089856713770:=t
def tw15484994692645340794:=t
def tw5245545925968332759:=t
def tw17593251977685331665:=t
def tw16984424265975733470:=t
def tw11789391261060452482:=t
def tw680952905963597734:=t
def tw3448921353733386138:=t
def tw6405508132216630481:=t
def tw9891224611038225860:=t
def tw10282234324249301562:=t
def tw6417477899147930998:=t
def tw4694812652445652121:=t
def tw3314779031500547453:=t
def tw13452618498564346780:=t
def tw6848154996342833032:=t
def tw5150901507725753443:=t
def tw15222993892602607712:=t
def tw7929765226951762662:=t
def tw11402808934966443179:=t
def tw6367118546713793392:=t
def tw8146046973403282832:=t
def tw6745493035561216201:=t
def tw45272495740871072:=t
def tw3152390035530158672:=t
def tw1972280288434332019:=t
def tw18414679245327941391:=t
def tw1576732200208717992:=t
def tw15562138658060415373:=t
def tw12714029691179428842:=t
def tw6650944652216871536:=t
def tw15175523560786072861:=t
def tw9492030974052275525:=t
def tw7139484722308059605:=t
def tw11771683693188519814:=t
def tw3943999666557572336:=t
def tw11383394471203168159:=t
def tw14874970907003699743:=t
def tw7389498320009487760:=t
def tw9412826583743119703:=t
def tw8180912323142013993:=t
def tw4501253685354132945:=t
def tw16926192530865172187:=t
def tw16605140997645889035:=t
def tw16396026219851780398:=t
def tw11162317468913885296:=t
def tw10231174084856764087:=t
def tw4089736872739412440:=t
def tw18186646301640039154:=t
def tw14800812993580234310:=t
def tw8688037746346186179:=t
def tw16263907699736131289:=t
def tw138829125449475364:=t
def tw13616818972522821265:=t
def tw16785458945873672706:=t
def tw8587255436482058140:=t
def tw4607459797087835133:=t
def tw12019142291843779652:=t
def tw9686484102345387092:=t
def tw254231747755072777:=t
def tw2346537447617793527:=t
def tw13100912266024518717:=t
def tw10360848443883878084:=t
def tw4520738763128147530:=t
def tw14673917742634999840:=t
def tw10400124235160197073:=t
def tw14731406413808944960:=t
def tw13589537868007069747:=t
def tw1750283699884533545:=t
def tw14116505885621873764:=t
def tw8117732367200825048:=t
def tw5033879173283119965:=t
def tw14447136818736890023:=t
def tw15249982190423221334:=t
def tw10658165207701873025:=t
def tw7180691680074445950:=t
def tw6898449671342476252:=t
def tw5130769284025804986:=t
def tw304104397507914129:=t
def tw1763115633564245042:=t
def tw16929066322601046037:=t
def tw1671981960917719530:=t
def tw13987605390153493447:=t
def tw13133083798998491441:=t
def tw12329839709017763641:=t
def tw10535124344814472072:=t
def tw5269564931507971060:=t
def tw10246822818374552800:=t
def tw5384583490671157966:=t
def tw9561443766454743494:=t
def tw493361621955360628:=t
def tw4243804353533803833:=t
def tw2697927021952071481:=t
def tw16577998755114095107:=t
def tw15131770190598245479:=t
def tw13644364226792017859:=t
def tw13291931190147600550:=t
def tw10463723945267342134:=t
def tw12047025451810836115:=t
def tw9560488364275273947:=t
def tw9369903425907019208:=t
def tw8806893351791586371:=t
def tw8534697057643707878:=t
def tw3183083881869549078:=t
def tw13942557823500291445:=t
def tw12016776997004350017:=t
def tw11963146581028404173:=t
def tw10006446787628986249:=t
def tw9645830764493784098:=t
def tw469679181014408069:=t
def tw3374208101047732792:=t
def tw18109847581042450723:=t
def tw17232868354383270799:=t
def tw15016613806182725441:=t
def tw1423806955010747344:=t
def tw5073133327205471286:=t
def tw2774958317616028641:=t
def tw1814798713087143433:=t
end PySem.W.Fast
local macro_rules|`(tactic| walk_at "def of the top")=>`(tactic| (refine' L3.Hy ?a ?l ?c ?k;(case a=>k_is);(case l=>k_is);(case c=>k_is);(case k=>k_is)))
local macro_rules|`(tactic| walk_at "def of a class")=>`(tactic| (refine' L3.Hz ?l ?c ?k ?n;(case l=>k_is);(case c=>k_is);(case k=>k_is);(case n=>k_is)))
local macro_rules|`(tactic| walk_at "class of 3")=>`(tactic| (refine' L3.FF ?ns ?g1 ?g2 ?g3 ?g4 ?m1 ?m2 ?m3 ?m4 ?na;(case ns=>k_is);(case g1=>k_is);(case g2=>k_is);(case g3=>k_is);(case g4=>k_is);(case m1=>k_is);(case m2=>k_is);(case m3=>k_is);(case m4=>k_is);(case na=>(refine' L3.L9 ?x ?y ?z;(case x=>k_is);(case y=>k_is);(case z=>k_is)))))
local macro_rules|`(tactic| walk_at "class of 8")=>`(tactic| (refine' L3.FF ?ns ?g1 ?g2 ?g3 ?g4 ?m1 ?m2 ?m3 ?m4 ?na;(case ns=>k_is);(case g1=>k_is);(case g2=>k_is);(case g3=>k_is);(case g4=>k_is);(case m1=>k_is);(case m2=>k_is);(case m3=>k_is);(case m4=>k_is);(case na=>(refine' L3.Ma ?x ?y ?z ?u ?x1 ?y1 ?z1 ?u1;(case x=>k_is);(case y=>k_is);(case z=>k_is);(case u=>k_is);(case x1=>k_is);(case y1=>k_is);(case z1=>k_is);(case u1=>k_is)))))
local macro_rules|`(tactic| walk_at "class of refusals")=>`(tactic| (refine' L3.HB ?tl ?a ?l ?g1 ?g2 ?g3 ?g4;(case a=>k_is);(case l=>k_is);(case tl=>(first|exact L3.L4|exact L3.LZ));(case g1=>k_is);(case g2=>k_is);(case g3=>k_is);(case g4=>k_is)))
open PySem PySem.W PyProof.Rows
set_option maxRecDepth 100000 in
set_option maxHeartbeats 0 in
theorem PySem.Challenge.cw_rowsbeneath_k61_plain_kinds_holds : PySem.Challenge.rw_rowsbeneath_k61_plain_kinds.Holds := by
 w_on;o_law;k_head;(case hw=>w_witness2)
 k_fill
 refine L2.B5 (l:=PySem.Challenge.rw_rowsbeneath_k61_plain_kinds) (n:=63) (k:=28) (x:="_law_script") (tx:="_law_right") (CX:=L2.ce) (sp:=L3.wG) rfl (by decide) rfl ⟨rfl,by decide,by decide⟩ (fun w h Y=>PySem.W.km_in_of Y) (fun w=>by kernel_rfl) rfl (fun w=>by kernel_rfl) ?F (fun _ T H a ns hl hS hT=>⟨a,ns,rfl,hS,hl,⟨#[],hT,trivial,fun _ _ e=>nomatch e⟩,fun _=>rfl⟩) (fun _ _ _ _ z=>z);case F=>
  intro w mg fa c T h KX G hmg ht;refine' L3.HF KX G hmg ht ?d0 ?d1 ?d2 ?d3 ?d4 ?d5 ?d6 ?d7 ?d8 ?d9 ?d10 ?d11 ?d12 ?d13 ?d14 ?d15 ?d16 ?d17 ?d18 ?d19 ?d20 ?d21 ?d22 ?d23 ?d24 ?d25 ?d26 ?d27 ?d28 ?d29 ?d30 ?d31 ?d32 ?d33 ?d34 ?d35 ?d36 ?d37 ?d38 ?d39 ?d40 ?d41 ?d42 ?d43 ?d44 ?d45 ?d46 ?d47 ?d48 ?d49 ?d50 ?d51 ?d52 ?d53 ?d54 ?d55 ?d56 ?d57 ?d58 ?d59 ?d60 ?d61 ?d62 ?CR ?IR ?CT ?IT ?OE ?On ?OJ ?Ot ?OF ?Oo ?OH ?Oq ?OI ?Os ?OG ?Op ?OD ?Om ?OC ?Ol ?OB ?Oj ?Pk ?Pe ?Po ?Pl ?Pj ?Pm ?Ph ?Pg ?Pn ?Pb ?Pd ?Pc ?Pu ?Pr ?PD ?Pw ?PJ ?Pa ?Pz ?Pq ?PB ?O9 ?Py ?O8 ?Px ?Ps ?PH ?Pp ?dO ?lo ?xR ?rd ?ri ?mR ?xK ?aK ?iK ?nK ?pK ?mK ?xT ?xN ?PR ?PP ?PV ?PX ?PY ?PQ ?PU ?PZ ?PL ?P0 ?PK ?PM ?PN ?P3 ?z_ValueError
  case d0|d1|d2|d3|d4|d5|d6|d7|d8|d9|d10|d11|d12|d13|d14|d15|d16|d17|d18|d19|d20|d21|d22|d23|d24|d25|d26|d27|d28|d29|d30|d31|d32|d33|d34|d35|d36|d37|d38|d39|d40|d41|d42|d43|d44|d45|d46|d47|d48|d49|d50|d51|d52|d53|d54|d55|d56|d57|d58|d59|d60|d61|d62=>walk_at "def of the top"
  case CR=>walk_at "class of 3"
  case CT=>walk_at "class of 8"
  case xR|xK|xT|xN=>walk_at "class of refusals"
  case OE|OJ|OF|OH|OI|OG|OD|OC|OB|Pk|Pe|Po|Pl|Pj|Pm|Ph|Pg|Pn|Pb|Pd|Pc|Pu|Pr|Pw|Pa|Pq|O9|O8|Ps|Pp|rd|ri|aK|iK|nK|pK|PR|PP|PV|PX|PY|PQ|PU|PZ|PL|P0|PK|PM|PN|P3|z_ValueError=>k_is
  case IR|IT|On|Ot|Oo|Oq|Os|Op|Om|Ol|Oj|mR|mK=>walk_at "def of a class"
  case PD=>refine' L3.rS ?h;(case h=>k_is)
  case PJ=>refine' L3.CD ?h;(case h=>k_is)
  case Pz=>refine' L3.EJ ?h;(case h=>k_is)
  case PB=>refine' L3.oS ?h;(case h=>k_is)
  case Py=>refine' L3.lS ?h;(case h=>k_is)
  case Px=>refine' L3.rT ?h;(case h=>k_is)
  case PH=>refine' L3.wH ?h;(case h=>k_is)
  case dO=>refine' L3.HE ?h;(case h=>k_is)
  case lo=>rfl
