import PyProof.Rows.All
import Wide.All
import OpenK.AllK
import Wide.FinOn
import Lean
import PyProof.EqAt
import PyProof.EqKinds
import PyProof.TupleCall
import PySem.Challenge.RW_rowsbeneath_k06_read_as_told
set_option Elab.async false
set_option linter.all false
set_option maxRecDepth 100000
set_option autoImplicit true
set_option relaxedAutoImplicit true
set_option maxHeartbeats 0
abbrev ZF:=PySem.W.Frag
section
open PySem PySem.Spec PyProof.Rows
abbrev Tr:=PySem.Value
abbrev Ts:=PySem.Addr
abbrev Tu:=PySem.Shared
abbrev Tv:=PySem.Program
abbrev Tw:=PySem.World
abbrev Tz:=PySem.Around
abbrev TB:=PySem.FuncData
abbrev TH:=List Str
abbrev TJ:=List Nat
abbrev TM:=List (Str×Str)
def a_:=@PySem.wpAny_bind
def b_:=@decide_eq_true
def c_:=@PySem.wpAny_pure
def d_:=@decide_eq_false
def e_:=@congrArg
def f_:=@if_neg
def g_:=@if_pos
def h_:=@PySem.PassesOwn.never
def i_:=@PySem.Heap.get?_update_self
def j_:=@PySem.wpAny_field
def k_:=@of_decide_eq_true
def l_:=@or_false
def m_:=@PySem.wpAny_mono
def n_:=@PySem.Heap.SameBut.update
def o_:=@PySem.wpAny_truthy_bool
def p_:=@List.contains_cons
def q_:=@PySem.wpAny_holding
def r_:=@Option.bind_some
def s_:=@PySem.wpAny_Call_Name_kw
def t_:=@decide_eq_true_eq
def u_:=@PySem.wpAny_callSpecial?_slot
def v_:=@PySem.wpAny_setField
def w_:=@PySem.wpAny_newObj_type
def x_:=@PySem.wpAny_loadPart_at
def y_:=@PySem.wpAny_isSubtype_exc
def z_:=@Bool.false_eq_true
def A_:=@PySem.W.methodCall_KW
def B_:=@PySem.Heap.get?_update_other
def C_:=@PySem.codeAny_mono
def D_:=@PySem.wpAny_passesOwn
def E_:=@Nat.le_add_right
def F_:=@PySem.F.slot_tuple_iterator_next
def G_:=@PySem.wpAny_seqItems
def H_:=@List.forIn_cons
def I_:=@PySem.wpAny_call_entry
def J_:=@PySem.wpAny_call
def K_:=@Ne.symm
def L_:=@Array.getElem?_setIfInBounds_ne
def M_:=@PySem.wpAny_loadPart'
def N_:=@PySem.F.slot_zip_next
def O_:=@if_true
def Pi:=@if_false
def P_:=@decide_eq_true_iff
def Q_:=@PySem.codeAny_call_builtin
def Ra:=@PySem.F.excBase_ValueError
def Rb:=@PySem.wpAny_standAt
def Re:=@PySem.wpAny_attempt
def Rf:=@PySem.sizeLine_eq
def Rg:=@List.take_add_one
def Rh:=@PySem.wpAny_pyIter_tuple
def Ri:=@PySem.tupleKind_room_in1
def Rj:=@PySem.wpAny_loadPart
def Rk:=@List.getElem?_set_self
def Rl:=@PySem.typeIs_str
def Rn:=@PySem.wpAny_pyIter_enum
def Ro:=@beq_iff_eq
def Rp:=@PySem.W.looks_findIn
def Rq:=@Nat.mul_le_mul_right
def Rr:=@List.replicate_succ'
def Rs:=@List.getElem?_set_ne
def Rt:=@Prod.mk.inj
def Ru:=@Nat.pow_pos
def Rv:=@Nat.one_mul
def Rw:=@Nat.add_mul
def Rx:=@PySem.W.plainGet_of
def Ry:=@List.take_succ_cons
def Rz:=@List.getElem_of_mem
def RA:=@PySem.wpAny_execs_nil
def RB:=@Bool.and_self
def RD:=@PySem.Obj.isFreed_of_fields
def RE:=@Int.emod_lt_of_pos
def RG:=@Option.isSome_map
def RH:=@Bool.not_eq_true'
def RI:=@PyProof.Rows.slot_tuple_getitem
def RJ:=@Nat.pow_succ
def RK:=@List.all_map
def RL:=@PyProof.Rows.callWith_builtin1
def RO:=@Nat.min_le_right
def RP:=@PySem.Heap.get?_update_ne
def RQ:=@PySem.wpAny_onRaise
def RR:=@Sum.inr.inj
def RS:=@Nat.le_succ
def RU:=@PySem.Obj.data_mapFields
def RV:=@List.range_succ
def RW:=@Int.emod_nonneg
def RX:=@PySem.F.slot_enumerate_next
def RY:=@Int.fdiv_eq_ediv_of_nonneg
def RZ:=@PySem.wpAny_pyIter_list
def R0:=@List.drop_zero
def R1:=@PySem.plainObj_wpAny_Assign_Attribute
def R3:=@PySem.F.args_tuple_add_2
def R4:=@List.getElem?_take_of_lt
abbrev R5:Str:="_law_table_here"
abbrev R6:Str:="_law_stream_here"
abbrev R7:Str:="_law_fields"
abbrev R8:Str:="self"
abbrev R9:Str:="place"
abbrev R_:Str:="width"
abbrev Sa:Str:="places"
abbrev Sb:Str:="reader"
abbrev Sc:Str:="mark"
abbrev Se:Str:="cells"
abbrev Sf:Str:="_law_found"
abbrev Sg:Str:="marks"
abbrev Sh:Str:="depth"
abbrev Si:Str:="_law_deed_here"
abbrev Sj:Str:="names"
abbrev Sk:Str:="fault"
abbrev Sl:Str:="_law_names_here"
abbrev Sn:Str:="_law_name"
abbrev So:Str:="kind"
abbrev Sq:Str:="_law_many"
abbrev Sr:Str:="_law_deep"
abbrev Ss:Str:="kinds_known"
abbrev Su:Str:="call"
abbrev Sv:Str:="_law_sort"
abbrev Sw:Str:="_law_kind"
abbrev Sx:Str:="gate"
abbrev Sy:Str:="brackets"
abbrev Sz:Str:="words"
abbrev SA:Str:="word"
abbrev SB:Str:="_law_script"
abbrev SC:Str:="kinds"
abbrev SD:Str:="_law_thing"
abbrev SE:Str:="tokens"
abbrev SF:Str:="_law_choices"
abbrev SH:Str:="_law_due"
abbrev SJ:Str:="next"
abbrev SK:Str:="back"
abbrev SN:Str:="stop"
abbrev SQ:Str:="text"
abbrev SS:Str:="thing"
abbrev SU:Str:="_law_way"
abbrev SV:Str:="choices"
abbrev SW:Str:="_law_sel_here"
abbrev SX:Str:="_law_rows"
abbrev SY:Str:="_law_head"
abbrev SZ:Str:="_law_k"
abbrev S0:Str:="_law_words"
abbrev S1:Str:="_law_cell_here"
abbrev S2:Str:="row"
abbrev S3:Str:="top"
abbrev S4:Str:="_law_told_here"
abbrev S5:Str:="go"
abbrev S6:Str:="cell_free"
abbrev S7:Str:="fields"
abbrev S8:Str:="_law_inner"
abbrev S9:Str:="else"
abbrev S_:Str:="high"
abbrev Ta:Str:="deep"
abbrev Te:Str:="bare"
abbrev Tf:Str:="given"
abbrev Tg:Str:="_law_field"
abbrev Th:Str:="_law_one"
abbrev Ti:Str:="_law_e"
abbrev Tj:Str:="spot"
abbrev Tk:Str:="sorts"
abbrev Tl:Str:="sort"
abbrev Tn:Str:="if"
abbrev To:Str:="low"
abbrev Tp:Str:="token"
abbrev Tq:Str:="body"
def JQ:=@Heap.get?_push_of_some
def JU:=@List.length_append
def JV:=@List.getElem?_eq_some_iff
def JW:=@List.mem_cons_self
def JX:=@List.length_cons
def JY:=@List.length_map
def JZ:=@List.mem_cons_of_mem
def J0:=@List.mem_cons
def J1:=@List.getElem?_eq_getElem
def J2:=@Nat.le_refl
def J9:=@List.length_take
def Ka:=@Heap.lt_size
def Kb:=@List.map_append
def Kc:=@List.not_mem_nil
def Kd:=@List.map_cons
def Ke:=@List.length_nil
def Kf:=@Nat.lt_of_lt_of_le
def Kg:=@List.mem_of_getElem?
def Kh:=@Bool.false_ne_true
def Ki:=@Heap.get?_push_size
def Kj:=@PySem.F.type_list_append
def Kk:=@PySem.F.slot_list_append
def Kl:=@List.getElem?_map
def Km:=@List.mem_append_right
def Ko:=@List.mem_append
def Kp:=@PySem.F.plainAttrs_list
def Kq:=@Nat.ne_of_lt
def Kr:=@List.mem_map
def Ks:=@List.size_toArray
def Kt:=@PySem.boot_len
def Ku:=@PySem.W.mg_of
def Kv:=@List.getD_eq_getElem?_getD
def Kw:=@Option.some.inj
def Kx:=@Nat.le_trans
def Ky:=@List.take_length
def Kz:=@List.mem_singleton
def KB:=@List.append_nil
def KC:=@List.all_eq_true
def KE:=@List.take_succ
def KG:=@PySem.W.mg_none_of
def KH:=@List.append_assoc
def KJ:=@List.getElem_mem
def KM:=@List.contains_iff_mem
def KO:=@Nat.zero_le
def KP:=@List.drop_eq_getElem_cons
def KQ:=@Bool.and_eq_true
def KR:=@PySem.F.plainAttrs_str
def KS:=@Nat.pow_le_pow_right
def KU:=@List.length_drop
def KW:=@PySem.F.type_str_join
def KY:=@PySem.F.slot_str_join
def KZ:=@List.take_append_drop
def K0:=@PySem.W.kia_one
def K1:=@List.mem_range
def K2:=@List.map_map
def K3:=@List.mem_append_left
def K4:=@Nat.lt_irrefl
def K5:=@List.lookup_cons
def K6:=@List.take_of_length_le
def K7:=@List.cons_append
def K8:=@PyProof.Rows.boot_int
def K9:=@List.length_eq_zero_iff
def La:=@Bool.eq_iff_iff
def Lb:=@PySem.W.callWith_K
def Lc:=@PyProof.Rows.callWith_type1
def Ld:=@List.getElem?_append_right
def Le:=@List.filterMap_cons
def Lf:=@Int.toNat_natCast
def Lg:=@Heap.size_push
def Lh:=@List.getElem?_append_left
def Li:=@List.map_nil
def Lj:=@List.filter_cons_of_pos
def Lk:=@PySem.mem_of_lookup
def Ll:=@List.length_pos_iff
def Lm:=@List.length_replicate
def Ln:=@List.mem_of_mem_take
def Lo:=@Bool.eq_false_iff
def Lp:=@List.append_cancel_right
def Lq:=@List.any_cons
def Lr:=@List.mem_filter
def Ls:=@List.find?_cons
def Lu:=@List.flatMap_cons
def Lv:=@Nat.lt_succ_self
def Lw:=@Array.length_toList
def Ly:=@List.nodup_cons
def Lz:=@List.sum_cons
def LA:=@List.filter_append
def LB:=@List.filter_cons_of_neg
def LD:=@Calls.callWith_builtin
def LG:=@List.nodup_append
def LH:=@List.flatten_cons
def LJ:=@Nat.le_of_lt
def LK:=@Nat.mod_lt
def LL:=@List.nil_append
def LM:=@List.of_mem_zip
def LO:=@Option.map_some
def LP:=@Nat.min_eq_left
def LQ:=@Nat.ne_of_gt
end
set_option hygiene false
local macro_rules|`(tactic| walk_at "l")=>`(tactic| first|(cases h;subst_vars;rfl)|((repeat rcases h with⟨_,h⟩)<;>(subst_vars;rfl)))
local macro_rules|`(tactic| walk_at "o")=>`(tactic| refine F.ok ZZ (fun vs H Q E h=>by walk_at "l") (fun Mb A outer s H vs Q E hr h=>?_))
local macro_rules|`(tactic| walk_at "p")=>`(tactic| (refine⟨?_⟩;intro pins s σ H Q I h))
local macro_rules|`(tactic| walk_at "u")=>`(tactic| (refine⟨?_⟩;intro pins s σ H D I h))
local macro_rules|`(tactic| walk_at "q")=>`(tactic| (refine⟨_,rfl,p,_,_,_,rfl,rfl,NY.of hp,bu,rfl,_,rfl,be zk ?_⟩))
local macro_rules|`(tactic| walk_at "s")=>`(tactic| (refine⟨_,rfl,p,_,_,_,rfl,rfl,NY.of hp,bu,rfl,_,rfl,bD (b_ rfl) ?_⟩))
local macro_rules|`(tactic| walk_at "r")=>`(tactic| (intro X hP hw hK hc i pins s σ H E I hf st hg;subst hP hw hK))
local macro_rules|`(tactic| walk_at "t")=>`(tactic| (intro pins s σ H x y v u Q I rx ry h))
local macro_rules|`(tactic| walk_at "v")=>`(tactic| (have sz:(100000:Nat)<=sizeLine:=by decide))
local macro_rules|`(tactic| walk_at "w")=>`(tactic| (have sz:(1000:Nat)<=sizeLine:=by decide))
local macro_rules|`(tactic| walk_at "x")=>`(tactic| (obtain⟨f0,f1,f2,f3,f4,f5⟩:=hf it (by simp)))
local macro_rules|`(tactic| walk_at "I")=>`(tactic| (obtain⟨x,H1,I1,r1,q1⟩:=hZZ))
local macro_rules|`(tactic| walk_at "J")=>`(tactic| (intro pins s σ H xs us Q I r h))
def zk{p:Prop}(h:p:=by decide +kernel):p:=h
def zo{p:Prop}(h:p:=by lia):p:=h
def zd{p:Prop}(h:p:=by decide):p:=h
def N5(h:Nat.ble n 1000=true:=by rfl):n<=PySem.sizeLine:=Nat.le_trans (Nat.le_of_ble_eq_true h) zd
namespace L2
open PySem PySem.Spec PyProof.Rows
abbrev dv:=Sum Int Str
def nv:dv->Tr->Bool
 |.inl k,v=>Value.isInt k v
 |.inr x,v=>Value.isStrOf x v
def Ie(w:Tw):dv->Int
 |.inl k=>hashInt k
 |.inr x=>hashStr w x
def ce:∀{k:dv}{v:Tr},nv k v=true->(∃i t,k=Sum.inl i/\v=Value.int i t)\/(∃x t,k=Sum.inr x/\v=Value.str x t)
 |.inl i,v,h=>by
  obtain⟨t,e⟩:=Value.isInt_shape (k:=i) (v:=v) h;exact .inl ⟨i,t,rfl,e⟩
 |.inr x,v,h=>by
  obtain⟨t,e⟩:=Value.isStrOf_shape (x:=x) (v:=v) h;exact .inr ⟨x,t,rfl,e⟩
def wv(i:Int)(t:Tok):nv (.inl i) (.int i t)=true:=by simp[nv,Value.isInt]
def ww(x:Str)(t:Tok):nv (.inr x) (.str x t)=true:=by simp[nv,Value.isStrOf]
def DR(a b:Int):decide ((Sum.inl a:dv)=Sum.inl b)=(a==b):=by
 by_cases e:a=b
 ·subst e;simp
 ·have h:¬(Sum.inl a:dv)=Sum.inl b:=fun q=>e (Sum.inl.inj q);rw[d_ h];exact(beq_eq_false_iff_ne.mpr e).symm
def DS(a b:Str):decide ((Sum.inr a:dv)=Sum.inr b)=decide (a=b):=by
 by_cases e:a=b
 ·subst e;simp
 ·have h:¬(Sum.inr a:dv)=Sum.inr b:=fun q=>e (RR q);rw[d_ h,d_ e]
def DU(a:Int)(b:Str):decide ((Sum.inl a:dv)=Sum.inr b)=false:=d_ (fun q=>nomatch q)
def DV(a:Str)(b:Int):decide ((Sum.inr a:dv)=Sum.inl b)=false:=d_ (fun q=>nomatch q)
def cz(prog:Tv)(w:Tw):PySem.KeyKind prog w dv where
 is:=nv
 hash:=Ie w
 inj:=fun v a b ha hb=>by
  rcases ce ha with⟨i,t,rfl,rfl⟩|⟨x,t,rfl,rfl⟩
  ·rcases ce hb with⟨j,u,rfl,e⟩|⟨y,u,rfl,e⟩
   ·injection e with e1 _;rw[e1]
   ·exact nomatch e
  ·rcases ce hb with⟨j,u,rfl,e⟩|⟨y,u,rfl,e⟩
   ·exact nomatch e
   ·injection e with e1 _;rw[e1]
 byValue:=fun k v h=>by
  rcases ce h with⟨i,t,rfl,rfl⟩|⟨x,t,rfl,rfl⟩<;>rfl
 pyHash:=fun hv h=>by
  rcases ce hv with⟨i,t,rfl,rfl⟩|⟨x,t,rfl,rfl⟩
  ·exact wpAny_pyHash_int h
  ·exact wpAny_pyHash_str h
 eqBool:=fun hu hv h=>by
  rcases ce hu with⟨i,t,rfl,rfl⟩|⟨x,t,rfl,rfl⟩
  ·rcases ce hv with⟨j,u,rfl,rfl⟩|⟨y,u,rfl,rfl⟩
   ·rw[DR]at h;exact wpAny_eqBool_int h
   ·rw[DU]at h;exact SeqAt.EqAt.int_str i t y u _ _ _ _ h
  ·rcases ce hv with⟨j,u,rfl,rfl⟩|⟨y,u,rfl,rfl⟩
   ·rw[DV]at h;exact SeqAt.EqAt.str_int x t j u _ _ _ _ h
   ·rw[DS]at h;exact wpAny_eqBool_str h
 «strs»:=fun k x t v h=>by
  rcases ce h with⟨i,u,rfl,e⟩|⟨y,u,rfl,e⟩
  ·exact nomatch e
  ·injection e with e1 _;subst e1;cases v<;>rfl
def qA(prog:Tv)(w:Tw)(i:Int)(t:Tok):(cz prog w).is (.inl i) (.int i t)=true:=wv i t
def qB(prog:Tv)(w:Tw)(x:Str)(t:Tok):(cz prog w).is (.inr x) (.str x t)=true:=ww x t
inductive V where
 |non|bl (b:Bool)|int (i:Int)|str (x:Str)|byt (b:Array UInt8)|flt (b:UInt64)|ref (a:Ts)|ty (n:String)
 deriving DecidableEq
abbrev TQ:=List V
def N3:V->Tr->Prop
 |.non,u=>u=Value.none
 |.bl b,u=>u=Value.bool b
 |.int i,u=>∃t,u=Value.int i t
 |.str x,u=>∃t,u=Value.str x t
 |.byt b,u=>∃t,u=Value.bytes b t
 |.flt b,u=>∃t,u=Value.float b t
 |.ref a,u=>u=Value.ref a
 |.ty n,u=>u=Value.type n
abbrev N2:TQ->List Tr->Prop:=Paired N3
variable{us:List Tr}{xs:TQ}
def N2.length(r:N2 xs us):xs.length=us.length:=Paired.length r
def N2.get:∀{xs:TQ}{us:List Tr}{i:Nat}{x:V},N2 xs us->xs[i]?=some x->∃u,us[i]?=some u/\N3 x u
 |_,_,_,_,.nil,e=>by simp at e
 |_,_,0,_,.cons r _,e=>by simp at e;subst e;exact⟨_,rfl,r⟩
 |_,_,i+1,x,.cons _ t,e=>by
  obtain⟨u,h1,h2⟩:=N2.get (i:=i) (x:=x) t (by simpa using e);exact⟨u,by simpa using h1,h2⟩
variable{u:Tr}{x:V}
def N2.set(r:N3 x u):∀{xs:TQ}{us:List Tr}(i:Nat),N2 xs us->N2 (xs.set i x) (us.set i u)
 |_,_,_,.nil=>.nil
 |_,_,0,.cons _ t=>.cons r t
 |_,_,i+1,.cons q t=>.cons q (N2.set r i t)
def N2.append:∀{xs ys:TQ}{us ws:List Tr},N2 xs us->N2 ys ws->N2 (xs++ys) (us++ws)
 |_,_,_,_,.nil,s=>s
 |_,_,_,_,.cons r t,s=>.cons r (N2.append t s)
def N2.take:∀{xs:TQ}{us:List Tr}(n:Nat),N2 xs us->N2 (xs.take n) (us.take n)
 |_,_,0,_=>.nil
 |_,_,_+1,.nil=>.nil
 |_,_,n+1,.cons r t=>.cons r (N2.take n t)
def N2.drop:∀{xs:TQ}{us:List Tr}(n:Nat),N2 xs us->N2 (xs.drop n) (us.drop n)
 |_,_,0,r=>r
 |_,_,_+1,.nil=>.nil
 |_,_,n+1,.cons _ t=>N2.drop n t
def Ox:Option V->Option Tr->Prop
 |some v,some u=>N3 v u
 |none,none=>True
 |_,_=>False
def KV{κ:Type}:List (κ×V)->List (κ×Tr)->Prop:=Paired fun(p:κ×V)(q:κ×Tr)=>p.1=q.1/\N3 p.2 q.2
def kV:dv->V
 |.inl i=>.int i
 |.inr x=>.str x
inductive HO where
 |lst (xs:TQ)
 |tup (xs:TQ)
 |dK (kvs:List (dv×V))|dT (kvs:List (List dv×V))
 |set (S:Int->Bool) (n:Nat)
 |ins (C dx:Ts) (fs:List (Str×V))
 |own (x:Ts)
 |xd (fs:List (Str×V))
 |met (f x:Ts)
 |rng (lo hi:Int)
 |frz (o:Obj) (u:HO)
 |tbl (ps:Array Tr)
 |ext (φ:Heap->Prop)
abbrev Hp:=Ts->Option HO
def aI(H:Hp)(a:Ts)(o:HO):Hp:=fun b=>if b=a then some o else H b
variable{o:HO}{a:Ts}{H:Hp}
def ae:aI H a o a=some o:=by unfold aI;rw[g_ rfl]
variable{b:Ts}
def am(h:b≠a):aI H a o b=H b:=by unfold aI;rw[f_ h]
def dz{o u:HO}(h:H a=some o)(h':H b=some u)(d:o≠u):a≠b:=by
 intro e;subst e;rw[h]at h';exact d (Kw h')
def az(h:H a=some o)(h':H b=none):a≠b:=by
 intro e;subst e;rw[h]at h';cases h'
def Pm(h:Heap)(a:Ts)(Me:Array Tr):Prop:=∃o,h.get? a=some o/\(o.cls,o.dict)=(Value.type "tuple",none)/\∃n,o.data=Data.seq Me n
variable{Me:Array Tr}{h:Heap}
def Pm.up(p:Pm h a Me):IsTup h a Me:=by obtain⟨o,e,c,d⟩:=p;exact ⟨o,e,(Rt c).1,d⟩
def Pm.lt(p:Pm h a Me):a<h.objs.size:=let⟨_,e,_⟩:=p;Ka e
def Pm.new(h:Heap)(Me:Array Tr):Pm (h.push {cls:=.type "tuple",data:=.seq Me}) h.objs.size Me:=⟨_,Ki _ rfl,rfl,_,rfl⟩
section
variable(P:Tv)(w:Tw)
def N7(H:Hp)(h:Heap)(a:Ts):HO->Prop
 |.lst xs=>xs.length<=sizeLine/\∃(f':List Tr)(n:Nat),N2 xs f'/\h.get? a=some {cls:=.type "list",data:=.seq f'.toArray n}
 |.tup xs=>xs.length<=sizeLine/\∃f':List Tr,N2 xs f'/\Pm h a f'.toArray
 |.dK kvs=>kvs.length<=sizeLine/\(a==sysModules)=false/\∃vs,KV kvs vs/\h.DictOf (cz P w) a vs
 |.dT kvs=>kvs.length<=sizeLine/\(a==sysModules)=false/\∃xs:List (List dv×Ts×Tr),
   Paired (fun(p:List dv×V)(q:List dv×Ts×Tr)=>p.1=q.1/\H q.2.1=some (.tup (p.1.map kV))/\N3 p.2 q.2.2) kvs xs /\
   ∃o es ep,h.get? a=some o/\o.ExactDict/\o.data=.dict es ep/\es.toList=xs.map (entryOfKey (tupleKind (cz P w)))/\(xs.map (·.1)).Nodup
 |.set S n=>h.SetOf (intKind P w) a S n
 |.ins C dx fs=>H dx=some (.own a)/\fs.length<=1000/\dx≠a/\h.get? a=some (PySem.W.instObj C dx) /\
   ∃mA,h.Ns1 dx mA/\(∀f,Ox (fs.lookup f) (mA f))/\PySem.Within mA (fs.map (·.1))
 |.own _=>∃o,h.get? a=some o
 |.xd fs=>∃mA,h.Ns1 a mA/\∀f,Ox (fs.lookup f) (mA f)
 |.rng lo hi=>∃t u v,h.get? a=some {cls:=.type "range",data:=.fields #[.int lo t,.int hi u,.int 1 v]}
 |.frz o u=>h.get? a=some o/\N7 H h a u
 |.tbl ps=>h.get? a=some {cls:=.none,data:=.fields ps}
 |.met f x=>h.get? a=some (PySem.W.methodObj (.ref f) (.ref x))
 |.ext φ=>φ h/\(∃o,h.get? a=some o)/\∀h1 h2:Heap,φ h1->(∀o,h1.get? a=some o->h2.get? a=some o)->φ h2
def Oo(H:Hp)(h:Heap):Prop:=∀a o,H a=some o->N7 P w H h a o
end
section
variable{P:Tv}{w:Tw}{H H':Hp}{h h':Heap}{a:Ts}{o:HO}
def N7.lt(x:N7 P w H h a o):a<h.objs.size:=by
 cases o with
 |lst xs=>obtain⟨_,_,_,_,e⟩:=x;exact Ka e
 |tup xs=>obtain⟨_,_,_,p⟩:=x;exact p.lt
 |dK kvs=>obtain⟨_,_,_,_,o,_,_,e,_⟩:=x;exact Ka e
 |dT kvs=>obtain⟨_,_,_,_,o,_,_,e,_⟩:=x;exact Ka e
 |set S n=>obtain⟨o,_,_,_,e,_⟩:=x;exact Ka e
 |ins C dx fs=>obtain⟨_,_,_,e,_⟩:=x;exact Ka e
 |own y=>obtain⟨_,e⟩:=x;exact Ka e
 |xd fs=>obtain⟨_,⟨_,_,_,e,_⟩,_⟩:=x;exact Ka e
 |rng lo hi=>obtain⟨_,_,_,e⟩:=x;exact Ka e
 |frz ob u=>obtain⟨e,_⟩:=x;exact Ka e
 |tbl ps=>exact Ka (show h.get? a=some _ from x)
 |met f y=>exact Ka (show h.get? a=some _ from x)
 |ext φ=>obtain⟨_,⟨_,e⟩,_⟩:=x;exact Ka e
def Paired.mapP{α β:Type}{F G:α->β->Prop}:∀{l₁:List α}{l₂:List β},Paired F l₁ l₂->(∀a b,F a b->G a b)->Paired G l₁ l₂
 |_,_,.nil,_=>.nil
 |_,_,.cons r t,f=>.cons (f _ _ r) (Paired.mapP t f)
def N7.stay(x:N7 P w H h a o)(k:∀b u,(b=a\/H b=some (.own a))->h.get? b=some u->h'.get? b=some u)
  (ho:∀b,H b=some (.own a)->H' b=some (.own a)) (ht:∀b xs,H b=some (.tup xs)->H' b=some (.tup xs)):N7 P w H' h' a o:=by
 induction o with
 |lst xs=>obtain⟨z,f',n,r,e⟩:=x;exact⟨z,f',n,r,k _ _ (.inl rfl) e⟩
 |tup xs=>obtain⟨z,f',r,ob,e,c⟩:=x;exact⟨z,f',r,ob,k _ _ (.inl rfl) e,c⟩
 |dK kvs=>obtain⟨z,y,vs,r,ob,es,ep,e,c⟩:=x;exact⟨z,y,vs,r,ob,es,ep,k _ _ (.inl rfl) e,c⟩
 |dT kvs=>
  obtain⟨z,y,xs,r,ob,es,ep,e,c⟩:=x;exact⟨z,y,xs,Paired.mapP r fun p q z=>⟨z.1,ht _ _ z.2.1,z.2.2⟩,ob,es,ep,k _ _ (.inl rfl) e,c⟩
 |set S n=>obtain⟨ob,es,ep,t,e,c⟩:=x;exact⟨ob,es,ep,t,k _ _ (.inl rfl) e,c⟩
 |ins C dx fs=>
  obtain⟨d,z,ne,e,mA,⟨od,es,ep,e2,c⟩,r⟩:=x;exact⟨ho _ d,z,ne,k _ _ (.inl rfl) e,mA,⟨od,es,ep,k _ _ (.inr d) e2,c⟩,r⟩
 |own y=>obtain⟨ob,e⟩:=x;exact⟨ob,k _ _ (.inl rfl) e⟩
 |xd fs=>obtain⟨mA,⟨od,es,ep,e,c⟩,r⟩:=x;exact⟨mA,⟨od,es,ep,k _ _ (.inl rfl) e,c⟩,r⟩
 |rng lo hi=>obtain⟨t,u,v,e⟩:=x;exact⟨t,u,v,k _ _ (.inl rfl) e⟩
 |frz ob u ih=>obtain⟨e,q⟩:=x;exact⟨k _ _ (.inl rfl) e,ih q⟩
 |tbl ps=>
  have e:h.get? a=some {cls:=.none,data:=.fields ps}:=x;show h'.get? a=some {cls:=.none,data:=.fields ps};exact k a _ (.inl rfl) e
 |met f y=>
  have e:h.get? a=some (PySem.W.methodObj (.ref f) (.ref y)):=x;show h'.get? a=some (PySem.W.methodObj (.ref f) (.ref y));exact k a _ (.inl rfl) e
 |ext φ=>obtain⟨p,⟨o,e⟩,st⟩:=x;exact⟨st _ _ p fun o q=>k _ _ (.inl rfl) q,⟨o,k _ _ (.inl rfl) e⟩,st⟩
def Oo.lt(x:Oo P w H h)(e:H a=some o):a<h.objs.size:=(x a o e).lt
def Oo.fresh(x:Oo P w H h)(e:h.objs.size<=a):H a=none:=by
 cases q:H a with
 |none=>rfl
 |some u=>exact absurd (Kf (x.lt q) e) (K4 _)
def Oo.kept(x:Oo P w H h)(k:∀b u,h.get? b=some u->h'.get? b=some u):Oo P w H h':=fun a o e=>
 (x a o e).stay (fun b u _ q=>k b u q) (fun _ q=>q) fun _ _ q=>q
def Oo.laid(x:Oo P w H h)(k:∀b u,h.get? b=some u->h'.get? b=some u)(hp:h.objs.size<=a)(new:N7 P w (aI H a o) h' a o):Oo P w (aI H a o) h':=fun b u e=>by
 have hn:=x.fresh hp;by_cases hb:b=a
 ·subst hb;rw[ae]at e;cases e;exact new
 ·rw[am hb]at e;exact(x b u e).stay (fun c v _ q=>k c v q) (fun c q=>by rw[am (az q hn)];exact q) fun c xs q=>by rw[am (az q hn)];exact q
end
def Rd(H:Hp)(a:Ts)(u:HO):Prop:=H a=some u\/∃o,H a=some (.frz o u)
variable{w:Tw}{P:Tv}
def Rd.ok{u:HO}(r:Rd H a u)(x:Oo P w H h):N7 P w H h a u:=by
 rcases r with r|⟨o,r⟩
 ·exact x a u r
 ·obtain⟨_,q⟩:=x a _ r;exact q
def Gc:Option HO->Prop
 |some (.lst _)=>True
 |some (.dK _)=>True
 |some (.dT _)=>True
 |some (.set _ _)=>True
 |some (.ins _ _ _)=>True
 |some (.ext _)=>True
 |_=>False
section
variable{P:Tv}{w:Tw}{H:Hp}{h h':Heap}{x e:Ts}{o':HO}
def Oo.write(ok:Oo P w H h)(mu:Gc (H x))(he:e=x\/H e=some (.own x))(k:∀b u,b≠e->h.get? b=some u->h'.get? b=some u)(W3:∃u,h'.get? e=some u)
  (new:N7 P w (aI H x o') h' x o'):Oo P w (aI H x o') h':=fun b u q=>by
 have Zx:∀c y,H c=some (.own y)->c≠x:=fun c y r z=>by subst z;rw[r]at mu;exact mu
 have ntup:∀c xs,H c=some (.tup xs)->c≠x:=fun c xs r z=>by subst z;rw[r]at mu;exact mu
 by_cases hb:b=x
 ·subst hb;rw[ae]at q;cases q;exact new
 ·rw[am hb]at q;by_cases Vp:b=e
  ·have q':H b=some (.own x):=by
    rcases he with z|z
    ·exact absurd (Vp.trans z) hb
    ·rw[Vp];exact z
   rw[q]at q';cases q';obtain⟨v,hv⟩:=W3;exact⟨v,by rw[Vp];exact hv⟩
  ·refine(ok b u q).stay (fun c v hc r=>k c v ?_ r) (fun c r=>by rw[am (Zx c b r)];exact r) fun c xs r=>by rw[am (ntup c xs r)];exact r
   rcases hc with rfl|hc
   ·exact Vp
   ·rintro rfl;rcases he with z|z
    ·exact Zx c b hc z
    ·rw[hc]at z;cases z;exact hb rfl
end
structure Un(fs ex:List Ts)(H H':Hp)(h h':Heap):Prop where
 keep:∀b o,h.get? b=some o->H b=none->b∉fs->b∉ex->h'.get? b=some o
 slot:∀b o,h.get? b=some o->H b=none->b∈fs->b∉ex->∃sl,h'.get? b=some {o with slots:=sl}
 free:∀b o,h.get? b=some o->H b=none->b∉ex->H' b=none
 there:∀b o,h.get? b=some o->b∉ex->∃o',h'.get? b=some o'
 tups:∀b xs,H b=some (.tup xs)->H' b=some (.tup xs)
 frzs:∀b o u,H b=some (.frz o u)->H' b=some (.frz o u)
 tbls:∀b ps,H b=some (.tbl ps)->∃more,H' b=some (.tbl (ps++more))
section
variable{fs W6 ex ex':List Ts}{H H1 H2:Hp}{h h1 h2 h':Heap}{a x e:Ts}{o:HO}
def Un.any(u:Un fs ex H H1 h h1){ob:Obj}(q:h.get? b=some ob)(n:H b=none)(hx:b∉ex):∃sl,h1.get? b=some {ob with slots:=sl}:=by
 by_cases hb:b∈fs
 ·exact u.slot b ob q n hb hx
 ·exact⟨ob.slots,u.keep b ob q n hb hx⟩
def Un.kept(k:∀b u,h.get? b=some u->h'.get? b=some u):Un fs ex H H h h':=
 ⟨fun b ob q _ _ _=>k b ob q,fun b ob q _ _ _=>⟨ob.slots,k b ob q⟩,fun _ _ _ n _=>n,fun b ob q _=>⟨ob,k b ob q⟩,fun _ _ q=>q,fun _ _ _ q=>q,fun _ ps q=>⟨#[],by rw[q];simp⟩⟩
def Un.refl:Un fs ex H H h h:=Un.kept fun _ _ q=>q
def Un.laid(k:∀b u,h.get? b=some u->h'.get? b=some u)(hp:h.objs.size<=a)(hn:H a=none):Un fs ex H (aI H a o) h h' where
 keep:=fun b u q _ _ _=>k b u q
 slot:=fun b u q _ _ _=>⟨u.slots,k b u q⟩
 free:=fun b u q n _=>by rw[am (Kq (Kf (Ka q) hp))];exact n
 there:=fun b u q _=>⟨u,k b u q⟩
 tups:=fun b xs q=>by rw[am (az q hn)];exact q
 frzs:=fun b u xs q=>by rw[am (az q hn)];exact q
 tbls:=fun b ps q=>⟨#[],by rw[am (az q hn),q];simp⟩
def Un.write(mu:Gc (H x))(he:e=x\/H e=some (.own x))(k:∀b u,b≠e->h.get? b=some u->h'.get? b=some u)(W3:∃u,h'.get? e=some u):Un fs ex H (aI H x o) h h':=by
 have hx:∀b,H b=none->b≠x:=fun b n z=>by subst z;rw[n]at mu;exact mu
 have hb:∀b,H b=none->b≠e:=fun b n z=>by
  subst z;rcases he with r|r
  ·exact hx b n r
  ·rw[n]at r;cases r
 have hm:∀b u,H b=some u->¬Gc (some u)->b≠x:=fun b u q nm z=>by subst z;rw[q]at mu;exact nm mu
 refine⟨fun b u q n _ _=>k b u (hb b n) q,fun b u q n _ _=>⟨u.slots,k b u (hb b n) q⟩,fun b u q n _=>by rw[am (hx b n)];exact n,fun b u q _=>?_,
  fun b xs q=>by rw[am (hm b _ q fun z=>z)];exact q,fun b u xs q=>by rw[am (hm b _ q fun z=>z)];exact q,fun b ps q=>⟨#[],by rw[am (hm b _ q fun z=>z),q];simp⟩⟩
 by_cases Vp:b=e
 ·subst Vp;exact W3
 ·exact⟨u,k b u Vp q⟩
end
def trk(h:Heap)(H:Hp):List Ts:=(List.range h.objs.size).filter fun a=>(H a).isSome
def oG(h:Heap)(H:Hp):Heap:=PySem.W.hideAll h (trk h H)
def wx(h:Heap)(H:Hp):(oG h H).objs.size=h.objs.size:=PySem.W.hideAll_size _ _
def i0{o:Obj}(e:h.get? b=some o)(n:H b=none):(oG h H).get? b=some o:=
 PySem.W.hideAll_get _ e fun hm=>by
  have q:(H b).isSome=true:=(Lr.mp hm).2;rw[n]at q;simp at q
def Bj{o:Obj}(e:(oG h H).get? b=some o):h.get? b=some o/\H b=none:=by
 have e':h.get? b=some o:=PySem.W.of_hideAll (trk h H) e;refine⟨e',?_⟩;cases q:H b with
 |none=>rfl
 |some x=>
  have hm:b∈trk h H:=Lr.mpr ⟨K1.mpr (Ka e'),by simp[q]⟩;have z:(oG h H).get? b=none:=PySem.W.hideAll_none (trk h H) hm;rw[z]at e;cases e
structure Mod(K:ZF)(mg:Str->Option Tr)(base:Heap):Prop where
 kin:K.In base
 glob:base.Ns mainGlobals mg
 blt:∃mb,base.Ns builtinsNs mb/\∀x:Str,x≠"__name__"->mb x=bootBuiltins x
 nolimit:base.NoLimit
structure Cx where
 prog:Tv
 w:Tw
 K:ZF
 mg:Str->Option Tr
 base:Heap
 A:Tz
 N:TH
 s₀:Tu
 H₀:Hp
 env:Env
 outer:List Env
 stack:List Env
 ex:List Ts
 fn:Str->Bool
 calm:Bool
 pn:List (Ts×Obj)
 xe:Tr->Tu->Prop
def ny(l:List Env):List Ts:=l.filterMap (·.frame)
abbrev Cx.fs(X:Cx):List Ts:=ny X.outer
def FZ(sc:Scope)(x:Str):Prop:=sc.names.lookup x=some .local\/sc.names.lookup x=some .cell\/sc.names.lookup x=some .free
def DW(sc:Scope)(x:Str):Prop:=sc.names.lookup x=some .local\/sc.names.lookup x=some .cell
def Gd(env:Env)(h:Heap)(m:Str->Option Tr)(x:Str)(u:Tr):Prop:=
 (env.kindOf x=some .local/\m x=some u)\/((env.kindOf x=some .cell\/env.kindOf x=some .free)/\∃c,env.cells.lookup x=some c/\h.IsCell c (some u))
structure Cx.Ok(X:Cx):Prop where
 mod:Mod X.K X.mg X.base
 kind:X.env.scope.kind=.function
 glob:X.env.globals=mainGlobals
 blt:X.env.builtins=builtinsNs
 above:X.s₀.heap.objs.size<=X.env.locals
 inj:∀x y c,X.env.cells.lookup x=some c->X.env.cells.lookup y=some c->x=y
 has:∀x,(X.env.kindOf x=some .cell\/X.env.kindOf x=some .free)->∃c,X.env.cells.lookup x=some c
 cab:∀x c,X.fn x=true->X.env.cells.lookup x=some c->X.s₀.heap.objs.size<=c
 hd:X.calm=true->X.A.handled=none
 frames:X.A.frames=some X.stack
 stk:X.stack=X.outer\/(X.stack=X.env::X.outer/\X.env.frame=some X.env.locals)
 exf:∀b∈X.ex,b≠X.env.locals/\∀x c,X.env.cells.lookup x=some c->c≠b
 bs:∀b o,X.base.get? b=some o->X.s₀.heap.get? b=some o/\X.H₀ b=none
 bsz:X.base.objs.size<=X.s₀.heap.objs.size
 noex:∀b o,X.base.get? b=some o->b∉X.ex
 exfs:∀b∈X.ex,b∉X.fs
 funs:X.s₀.heap.FunFrames X.base X.outer
 frf:∀b∈X.fs,X.H₀ b=none
structure NX(X:Cx)(pins:List (Ts×Obj))(σ:List (Option V))(H:Hp)(s:Tu):Prop where
 ok:X.Ok
 os:s.os=X.s₀.os
 bare:AllBare s.gens
 base:Un X.fs X.ex X.H₀ H X.s₀.heap s.heap
 loc:∃m,s.heap.Ns X.env.locals m/\∀(i:Nat)(x:Str)(v:V),X.N[i]?=some x->σ[i]?=some (some v)->FZ X.env.scope x->∃u,N3 v u/\Gd X.env s.heap m x u
 cell:∀x c,X.env.cells.lookup x=some c->∃v,s.heap.IsCell c v
 free:H X.env.locals=none
 freeC:∀x c,X.env.cells.lookup x=some c->H c=none
 pin:∀p∈X.pn++pins,s.heap.get? p.1=some p.2/\H p.1=none/\p.1≠X.env.locals/\p.1∉X.fs/\∀v,p.2.data≠.cell v
 hok:Oo X.prog X.w H s.heap
 len:σ.length=X.N.length
section
variable{X:Cx}{pins:List (Ts×Obj)}{σ:List (Option V)}{H H':Hp}{s:Tu}{h':Heap}
def Cx.Ok.nofr(ok:X.Ok){o:Obj}(e:X.base.get? b=some o):b∉X.fs:=fun hb=>by
 have:=(ok.funs.mem hb).1;rw[e]at this;cases this
def NX.bs(I:NX X pins σ H s):∀b o,X.base.get? b=some o->s.heap.get? b=some o/\H b=none:=fun b o e=>
 ⟨I.base.keep b o (I.ok.bs b o e).1 (I.ok.bs b o e).2 (I.ok.nofr e) (I.ok.noex b o e),I.base.free b o (I.ok.bs b o e).1 (I.ok.bs b o e).2 (I.ok.noex b o e)⟩
def NX.bk(I:NX X pins σ H s):∀b o,X.base.get? b=some o->s.heap.get? b=some o:=fun b o e=>(I.bs b o e).1
def NX.mod(I:NX X pins σ H s):Mod X.K X.mg X.base:=I.ok.mod
def NX.kIn(I:NX X pins σ H s):X.K.In s.heap:=I.ok.mod.kin.keeps I.bk
def NX.lt(I:NX X pins σ H s):X.env.locals<s.heap.objs.size:=let⟨_,hn,_⟩:=I.loc;hn.lt
def NX.sz(I:NX X pins σ H s):X.s₀.heap.objs.size<=s.heap.objs.size:=Kx I.ok.above (LJ I.lt)
def NX.nofs(I:NX X pins σ H s)(h:s.heap.objs.size<=a):a∉X.fs:=fun hb=>by
 obtain⟨_,o,ho,_⟩:=I.ok.funs.mem hb;exact absurd (Kf (Ka ho) (Kx I.sz h)) (K4 _)
def NX.cne(I:NX X pins σ H s):∀x c,X.env.cells.lookup x=some c->c≠X.env.locals:=fun x c e z=>by
 obtain⟨v,o,ho,hd⟩:=I.cell x c e;obtain⟨m,⟨o',es,ep,U4,Us,_⟩,_⟩:=I.loc;rw[z,U4]at ho;cases ho;rw[Us]at hd;cases hd
def NX.funs(I:NX X pins σ H s):s.heap.FunFrames X.base X.outer:=by
 have all:∀(l:List Env),(∀b∈ny l,b∈X.fs)->X.s₀.heap.FunFrames X.base l->s.heap.FunFrames X.base l:=by
  intro l;induction l with
  |nil=>intro _ _;trivial
  |cons env r ih=>
   intro hs hl;obtain⟨hk,⟨L,o,hf,hn,ho,hd⟩,hr⟩:=hl;have hL:L∈X.fs:=hs L (by unfold ny;rw[Le,hf];exact JW);obtain⟨sl,e⟩:=I.base.slot L o ho (I.ok.frf L hL) hL fun z=>I.ok.exfs L z hL;exact⟨hk,⟨L,_,hf,hn,e,hd⟩,ih (fun b hb=>hs b (by unfold ny;rw[Le,hf];exact JZ _ hb)) hr⟩
 exact all X.outer (fun _ hb=>hb) I.ok.funs
def NX.stack(I:NX X pins σ H s):s.heap.FunFrames X.base X.stack:=by
 rcases I.ok.stk with e|⟨e,hf⟩
 ·rw[e];exact I.funs
 ·rw[e];obtain⟨m,hn,_⟩:=I.loc;refine .cons (by rw[I.ok.kind];decide) hf hn ?_ I.funs;exact Heap.get?_none_of_le (Kx I.ok.bsz I.ok.above)
def NX.stkSub(I:NX X pins σ H s):∀b∈ny X.stack,b∈X.env.locals::X.fs:=fun b hb=>by
 rcases I.ok.stk with e|⟨e,hf⟩
 ·rw[e]at hb;exact JZ _ hb
 ·rw[e]at hb;unfold ny at hb;rw[Le,hf]at hb;exact hb
def NX.stkFree(I:NX X pins σ H s):∀b∈ny X.stack,H b=none:=fun b hb=>by
 rcases J0.mp (I.stkSub b hb)with e|hb
 ·rw[e];exact I.free
 ·obtain⟨_,o,ho,_⟩:=I.ok.funs.mem hb;exact I.base.free b o ho (I.ok.frf b hb) fun z=>I.ok.exfs b z hb
def NX.step{g':Array GenState}{t':Nat}{d':Drawn}{ch:List Ts}(I:NX X pins σ H s)
  (Wo:∀b∈ch,(b∈X.ex\/X.s₀.heap.objs.size<=b)/\b≠X.env.locals/\(∀x c,X.env.cells.lookup x=some c->c≠b)/\∀p∈X.pn++pins,p.1≠b)
  (keep:∀b o,b≠X.env.locals->b∉X.fs->b∉ch->s.heap.get? b=some o->H b=none->h'.get? b=some o)
  (slot:∀b o,b≠X.env.locals->b∈X.fs->b∉ch->s.heap.get? b=some o->H b=none->∃sl,h'.get? b=some {o with slots:=sl}) (free:∀b o,b∉ch->s.heap.get? b=some o->H b=none->H' b=none)
  (there:∀b o,b∉ch->s.heap.get? b=some o->∃o',h'.get? b=some o')
  (tups:∀b xs,H b=some (.tup xs)->H' b=some (.tup xs)) (frzs:∀b o u,H b=some (.frz o u)->H' b=some (.frz o u)) (tbls:∀b ps,H b=some (.tbl ps)->∃more,H' b=some (.tbl (ps++more)))
  (ns:∀m,s.heap.Ns X.env.locals m->h'.Ns X.env.locals m) (hok:Oo X.prog X.w H' h') (hg:AllBare g') :
  NX X pins σ H' {s with heap:=h',gens:=g',drawn:=d',toks:=t'}:=by
 have neL:∀b o,X.s₀.heap.get? b=some o->b≠X.env.locals:=fun b o e=>Kq (Kf (Ka e) I.ok.above);have neC:∀b o,X.s₀.heap.get? b=some o->b∉X.ex->b∉ch:=fun b o e hx hb=>by
  rcases(Wo b hb).1 with z|z
  ·exact hx z
  ·exact absurd (Kf (Ka e) z) (K4 _)
 have Xf:∀x c,X.env.cells.lookup x=some c->∀v,s.heap.IsCell c v->h'.IsCell c v:=fun x c e v⟨o,ho,hd⟩=>by
  have YN:c∉ch:=fun z=>(Wo c z).2.2.1 x c e rfl;by_cases hc:c∈X.fs
  ·obtain⟨sl,q⟩:=slot c o (I.cne x c e) hc YN ho (I.freeC x c e);exact⟨_,q,hd⟩
  ·exact⟨o,keep c o (I.cne x c e) hc YN ho (I.freeC x c e),hd⟩
 refine⟨I.ok,I.os,hg,⟨fun b o e n hb hx=>?_,fun b o e n hb hx=>?_,fun b o e n hx=>?_,fun b o e hx=>?_,fun b xs e=>tups b xs (I.base.tups b xs e),fun b o xs e=>frzs b o xs (I.base.frzs b o xs e),fun b ps e=>?_⟩,?_,fun x c e=>?_,?_,fun x c e=>?_,fun p hp=>?_,hok,I.len⟩
 ·exact keep b o (neL b o e) hb (neC b o e hx) (I.base.keep b o e n hb hx) (I.base.free b o e n hx)
 ·obtain⟨sl,e1⟩:=I.base.slot b o e n hb hx;obtain⟨sl',e2⟩:=slot b _ (neL b o e) hb (neC b o e hx) e1 (I.base.free b o e n hx);exact⟨sl',e2⟩
 ·obtain⟨o',e1⟩:=I.base.there b o e hx;exact free b o' (neC b o e hx) e1 (I.base.free b o e n hx)
 ·obtain⟨o',e1⟩:=I.base.there b o e hx;exact there b o' (neC b o e hx) e1
 ·obtain⟨m1,e1⟩:=I.base.tbls b ps e;obtain⟨m2,e2⟩:=tbls b _ e1;exact⟨m1++m2,by rw[e2,Array.append_assoc]⟩
 ·obtain⟨m,hn,hl⟩:=I.loc;refine⟨m,ns m hn,fun i x v e1 e2 e3=>?_⟩;obtain⟨u,r,l⟩:=hl i x v e1 e2 e3;refine⟨u,r,?_⟩;rcases l with l|⟨k,c,e,z⟩
  ·exact .inl l
  ·exact .inr ⟨k,c,e,Xf x c e _ z⟩
 ·obtain⟨v,z⟩:=I.cell x c e;exact⟨v,Xf x c e v z⟩
 ·obtain⟨m,⟨o,_,_,ho,_⟩,_⟩:=I.loc;exact free _ o (fun z=>(Wo _ z).2.1 rfl) ho I.free
 ·obtain⟨v,o,ho,hd⟩:=I.cell x c e;exact free c o (fun z=>(Wo c z).2.2.1 x c e rfl) ho (I.freeC x c e)
 ·obtain⟨e,n,ne,nf,d⟩:=I.pin p hp;have YN:p.1∉ch:=fun z=>(Wo p.1 z).2.2.2 p hp rfl;exact⟨keep p.1 p.2 ne nf YN e n,free p.1 p.2 YN e n,ne,nf,d⟩
def NX.un{t':Nat}(I:NX X pins σ H s)(u:Un X.fs [] H H' s.heap h')(hok:Oo X.prog X.w H' h'):NX X pins σ H' {s with heap:=h',toks:=t'}:=by
 obtain⟨m,⟨o,es,ep,ho,r⟩,_⟩:=id I.loc;obtain⟨sl,hL⟩:=u.any ho I.free (by simp);exact I.step (g':=s.gens) (d':=s.drawn) (ch:=[]) (fun _ z=>nomatch z) (fun b o _ hb _ e n=>u.keep b o e n hb (by simp)) (fun b o _ hb _ e n=>u.slot b o e n hb (by simp)) (fun b o _ e n=>u.free b o e n (by simp)) (fun b o _ e=>u.there b o e (by simp)) u.tups u.frzs u.tbls (fun m' hm=>by
  obtain⟨o',es',ep',U4,r'⟩:=hm;rw[ho]at U4;cases U4;exact⟨_,es',ep',hL,r'⟩) hok I.bare
variable{ch:List Ts}
def NX.call{g':Array GenState}{t':Nat}{d':Drawn}(I:NX X pins σ H s)(u:Un (ny X.stack) ch H H' s.heap h')(hok:Oo X.prog X.w H' h')(hg:AllBare g')
  (Wo:∀b∈ch,(b∈X.ex\/X.s₀.heap.objs.size<=b)/\b≠X.env.locals/\(∀x c,X.env.cells.lookup x=some c->c≠b)/\∀p∈X.pn++pins,p.1≠b) :
  NX X pins σ H' {s with heap:=h',gens:=g',drawn:=d',toks:=t'}:=by
 obtain⟨m,⟨o,es,ep,ho,r⟩,_⟩:=id I.loc;obtain⟨sl,hL⟩:=u.any ho I.free fun z=>(Wo _ z).2.1 rfl;exact I.step (ch:=ch) Wo (fun b o hL hb hc e n=>u.keep b o e n (fun z=>(J0.mp (I.stkSub b z)).elim hL hb) hc) (fun b o _ _ hc e n=>u.any e n hc) (fun b o hc e n=>u.free b o e n hc) (fun b o hc e=>u.there b o e hc) u.tups u.frzs u.tbls (fun m' hm=>by
  obtain⟨o',es',ep',U4,r'⟩:=hm;rw[ho]at U4;cases U4;exact⟨_,es',ep',hL,r'⟩) hok hg
def NX.turned{t':Nat}{it:Ts}(I:NX X pins σ H s)(k:∀b o,b≠it->s.heap.get? b=some o->h'.get? b=some o)(hn:H it=none)(hL:it≠X.env.locals)
  (h1:it∈X.ex\/X.s₀.heap.objs.size<=it) (h2:∀x c,X.env.cells.lookup x=some c->c≠it) (h3:∀p∈X.pn++pins,p.1≠it):NX X pins σ H {s with heap:=h',toks:=t'}:=by
 have nit:∀b u,H b=some u->b≠it:=fun b u e z=>by rw[z,hn]at e;cases e
 refine I.step (g':=s.gens) (d':=s.drawn) (ch:=[it]) (fun b hb=>?_) (fun b o _ _ hc e _=>k b o (fun z=>hc (by simp[z])) e) (fun b o _ _ hc e _=>⟨o.slots,k b o (fun z=>hc (by simp[z])) e⟩) (fun _ _ _ _ n=>n)
  (fun b o hc e=>⟨o,k b o (fun z=>hc (by simp[z])) e⟩) (fun _ _ e=>e) (fun _ _ _ e=>e) (fun b ps e=>⟨#[],by rw[e];simp⟩) (fun m hm=>?_) (fun b u e=>?_) I.bare
 ·have e:b=it:=by simpa using hb
  subst e;exact⟨h1,hL,h2,h3⟩
 ·obtain⟨o,es,ep,ho,r⟩:=hm;exact⟨o,es,ep,k _ o (K_ hL) ho,r⟩
 ·refine(I.hok b u e).stay (fun c v hc q=>k c v ?_ q) (fun _ q=>q) fun _ _ q=>q;rcases hc with z|z
  ·rw[z];exact nit b u e
  ·exact nit c _ z
def NX.tok(I:NX X pins σ H s)(t:Nat):NX X pins σ H {s with toks:=t}:=I.un (h':=s.heap) (t':=t) Un.refl I.hok
def NX.kept{t':Nat}(I:NX X pins σ H s)(k:∀b u,s.heap.get? b=some u->h'.get? b=some u):NX X pins σ H {s with heap:=h',toks:=t'}:=I.un (Un.kept k) (I.hok.kept k)
def NX.laid{t':Nat}(I:NX X pins σ H s)(k:∀b u,s.heap.get? b=some u->h'.get? b=some u)(hp:s.heap.objs.size<=a)(new:N7 X.prog X.w (aI H a o) h' a o):
  NX X pins σ (aI H a o) {s with heap:=h',toks:=t'}:=I.un (Un.laid k hp (I.hok.fresh hp)) (I.hok.laid k hp new)
def NX.write{x e:Ts}{o:HO}{t':Nat}(I:NX X pins σ H s)(mu:Gc (H x))(he:e=x\/H e=some (.own x))(k:∀b u,b≠e->s.heap.get? b=some u->h'.get? b=some u)(W3:∃u,h'.get? e=some u)
  (new:N7 X.prog X.w (aI H x o) h' x o):NX X pins σ (aI H x o) {s with heap:=h',toks:=t'}:=I.un (Un.write mu he k W3) (I.hok.write mu he k W3 new)
def NX.weak{σ':List (Option V)}(I:NX X pins σ H s)(hl:σ'.length=σ.length)(w:∀(i:Nat)v,σ'[i]?=some (some v)->σ[i]?=some (some v)):NX X pins σ' H s:=
 ⟨I.ok,I.os,I.bare,I.base,let⟨m,hn,Y3⟩:=I.loc;⟨m,hn,fun i x v e1 e2 e3=>Y3 i x v e1 (w i v e2) e3⟩,I.cell,I.free,I.freeC,I.pin,I.hok,hl.trans I.len⟩
def NX.pins_of{pins':List (Ts×Obj)}(I:NX X pins σ H s)(h:∀p∈pins',s.heap.get? p.1=some p.2/\H p.1=none/\p.1≠X.env.locals/\p.1∉X.fs/\∀v,p.2.data≠.cell v):NX X pins' σ H s:=
 ⟨I.ok,I.os,I.bare,I.base,I.loc,I.cell,I.free,I.freeC,fun p hp=>(Ko.mp hp).elim (fun z=>I.pin p (K3 _ z)) (h p),I.hok,I.len⟩
variable{i j:Nat}
def lj{N:TH}(hN:N.Nodup){x:Str}(a:N[i]?=some x)(b:N[j]?=some x):i=j:=by
 obtain⟨h1,e1⟩:=JV.mp a;obtain⟨h2,e2⟩:=JV.mp b;exact(List.getElem_inj hN).mp (e1.trans e2.symm)
variable{v:V}
def nA{M:Model}{A:Tz}{E:Tr->Tu->Prop}{x:Str}{Q:Unit->Tu->Prop}(I:NX X pins σ H s)(hN:X.N.Nodup)(hi:X.N[i]?=some x)(hx:DW X.env.scope x)(r:N3 v u)
  (h:∀s',NX X pins (σ.set i (some v)) H s'->(∃a,Heap.SameBut a s.heap s'.heap/\(a=X.env.locals\/X.env.cells.lookup x=some a))->Q () s') (hf:X.fn x=true\/X.env.scope.names.lookup x=some .local:=by first|exact .inl rfl|exact .inr rfl|assumption):wpAny M A (storeName X.env x u) Q E s:=by
 obtain⟨m,hn,hl⟩:=id I.loc;have XW:(X.env.scope.kind==.class||(X.env.scope.kind==.module&&X.env.locals != X.env.globals))=false:=by rw[I.ok.kind];rfl
 have hiσ:i<σ.length:=by rw[I.len];exact(JV.mp hi).1
 have cne:=I.cne;have Vx:∀{a:Ts}{h':Heap},(∃o,s.heap.get? a=some o/\H a=none)->Heap.SameBut a s.heap h'->Oo X.prog X.w H h':=fun{a h'}ha hs b ob e=>by
  obtain⟨_,_,Vv⟩:=ha;refine(I.hok b ob e).stay (fun c w' hc q=>(hs.2 c ?_).trans q) (fun _ q=>q) fun _ _ q=>q;rintro rfl;rcases hc with rfl|hc
  ·rw[Vv]at e;cases e
  ·rw[Vv]at hc;cases hc
 rcases hx with hk|hk
 ·refine wpAny_storeName_local hk hn (fun h' UR hs=>?_) XW;obtain⟨oL,_,_,hoL,_⟩:=id hn;refine h _ ⟨I.ok,I.os,I.bare,⟨fun b o e n hb hx=>?_,fun b o e n hb hx=>?_,I.base.free,fun b o e hx=>?_,I.base.tups,I.base.frzs,I.base.tbls⟩,⟨_,UR,fun j y v' e1 e2 e3=>?_⟩,fun y c e=>?_,I.free,I.freeC,fun p hp=>?_,Vx ⟨oL,hoL,I.free⟩ hs,by simpa using I.len⟩ ⟨_,hs,.inl rfl⟩
  ·exact(hs.2 b (Kq (Kf (Ka e) I.ok.above))).trans (I.base.keep b o e n hb hx)
  ·obtain⟨sl,e1⟩:=I.base.slot b o e n hb hx;exact⟨sl,(hs.2 b (Kq (Kf (Ka e) I.ok.above))).trans e1⟩
  ·obtain⟨o',e1⟩:=I.base.there b o e hx;exact⟨o',(hs.2 b (Kq (Kf (Ka e) I.ok.above))).trans e1⟩
  ·by_cases hj:j=i
   ·subst hj;rw[hi]at e1;cases e1;rw[Rk hiσ]at e2;cases e2;exact⟨u,r,.inl ⟨hk,by simp⟩⟩
   ·rw[Rs (K_ hj)]at e2;obtain⟨u',r',q⟩:=hl j y v' e1 e2 e3;refine⟨u',r',?_⟩;rcases q with⟨k,e⟩|⟨k,c,e,z⟩
    ·refine .inl ⟨k,?_⟩;have:y≠x:=fun e=>hj (lj hN e1 (e▸hi));simp[this,e]
    ·exact .inr ⟨k,c,e,z.sameBut hs (cne y c e)⟩
  ·obtain⟨w',z⟩:=I.cell y c e;exact⟨w',z.sameBut hs (cne y c e)⟩
  ·obtain⟨e,n,ne,nf,d⟩:=I.pin p hp;exact⟨(hs.2 p.1 ne).trans e,n,ne,nf,d⟩
 ·have Xu:X.fn x=true:=by
   rcases hf with z|z
   ·exact z
   ·rw[z]at hk;cases hk
  obtain⟨c,hc⟩:=I.ok.has x (.inl hk);obtain⟨w',z⟩:=I.cell x c hc;refine wpAny_storeName_cell I.ok.kind hk hc z (fun h' hc' hs=>?_);obtain⟨oc,hoc,hocd⟩:=id z;refine h {s with heap:=h'} ⟨I.ok,I.os,I.bare,⟨fun b o e n hb hx=>?_,fun b o e n hb hx=>?_,I.base.free,fun b o e hx=>?_,I.base.tups,I.base.frzs,I.base.tbls⟩,⟨m,hn.sameBut hs (K_ (cne x c hc)),fun j y v' e1 e2 e3=>?_⟩,fun y c' e=>?_,I.free,I.freeC,fun p hp=>?_,Vx ⟨oc,hoc,I.freeC x c hc⟩ hs,by simpa using I.len⟩ ⟨c,hs,.inr hc⟩
  ·exact(hs.2 b (Kq (Kf (Ka e) (I.ok.cab x c Xu hc)))).trans (I.base.keep b o e n hb hx)
  ·obtain⟨sl,e1⟩:=I.base.slot b o e n hb hx;exact⟨sl,(hs.2 b (Kq (Kf (Ka e) (I.ok.cab x c Xu hc)))).trans e1⟩
  ·obtain⟨o',e1⟩:=I.base.there b o e hx;exact⟨o',(hs.2 b (Kq (Kf (Ka e) (I.ok.cab x c Xu hc)))).trans e1⟩
  ·by_cases hj:j=i
   ·subst hj;rw[hi]at e1;cases e1;rw[Rk hiσ]at e2;cases e2;exact⟨u,r,.inr ⟨.inl hk,c,hc,hc'⟩⟩
   ·rw[Rs (K_ hj)]at e2;obtain⟨u',r',q⟩:=hl j y v' e1 e2 e3;refine⟨u',r',?_⟩;rcases q with q|⟨k,c',e,z'⟩
    ·exact .inl q
    ·refine .inr ⟨k,c',e,z'.sameBut hs ?_⟩;rintro rfl;exact hj (lj hN e1 (I.ok.inj _ _ _ e hc▸hi))
  ·by_cases W4:c'=c
   ·subst W4;exact⟨_,hc'⟩
   ·obtain⟨w2,z2⟩:=I.cell y c' e;exact⟨w2,z2.sameBut hs W4⟩
  ·obtain⟨e,n,ne,nf,d⟩:=I.pin p hp;refine⟨(hs.2 p.1 ?_).trans e,n,ne,nf,d⟩;intro q;rw[q,hoc]at e;have q':oc=p.2:=Kw e;exact d w' (by rw[<-q'];exact hocd)
def i3{M:Model}{A:Tz}{E:Tr->Tu->Prop}{x:Str}{Q:Unit->Tu->Prop}(I:NX X pins σ H s)(hN:X.N.Nodup)(hi:X.N[i]?=some x)(hx:DW X.env.scope x)(r:N3 v u)
  (h:∀s',NX X pins (σ.set i (some v)) H s'->Q () s') (hf:X.fn x=true\/X.env.scope.names.lookup x=some .local:=by first|exact .inl rfl|exact .inr rfl|assumption):wpAny M A (storeName X.env x u) Q E s:=
 nA I hN hi hx r (fun s' I' _=>h s' I') hf
def NX.call'{s':Tu}(I:NX X pins σ H s)(ho:s'.os=s.os)(u:Un (ny X.stack) ch H H' s.heap s'.heap)(hok:Oo X.prog X.w H' s'.heap)(hg:AllBare s'.gens)
  (Wo:∀b∈ch,(b∈X.ex\/X.s₀.heap.objs.size<=b)/\b≠X.env.locals/\(∀x c,X.env.cells.lookup x=some c->c≠b)/\∀p∈X.pn++pins,p.1≠b):NX X pins σ H' s':=by
 obtain⟨h',g',d',t',o'⟩:=s';have e:o'=s.os:=ho;subst e;exact I.call (g':=g') (t':=t') (d':=d') u hok hg Wo
end
abbrev XK:=Tr->Option Ts->Hp->Prop
abbrev St:=List (Option V)
abbrev VK:=V->Hp->Prop
abbrev TE:=St->Hp->VK->Prop
abbrev TT:=St->Hp->(Bool->Hp->Prop)->Prop
abbrev TA:=St->Hp->(TQ->Hp->Prop)->Prop
structure Ow where
 nx:St->Hp->Prop
 rt:VK
 bk:St->Hp->Prop:=fun _ _=>False
 ct:St->Hp->Prop:=fun _ _=>False
abbrev TS:=Ow->St->Hp->Prop
inductive EP(X:Cx)(pins:List (Ts×Obj))(σ:St)(Q:VK)(u:Tr)(s':Tu):Prop
 |mk(v H':_):NX X pins σ H' s'->N3 v u->Q v H'->EP X pins σ Q u s'
def TP(X:Cx)(pins:List (Ts×Obj))(σ:St)(Q:Bool->Hp->Prop)(b:Bool)(s':Tu):Prop:=∃H',NX X pins σ H' s'/\Q b H'
inductive AP(X:Cx)(pins:List (Ts×Obj))(σ:St)(Q:TQ->Hp->Prop)(us:List Tr)(s':Tu):Prop
 |mk(vs H':_):NX X pins σ H' s'->N2 vs us->Q vs H'->AP X pins σ Q us s'
def SP(X:Cx)(pins:List (Ts×Obj))(D:Ow)(f:Flow)(s':Tu):Prop:=
 match f with
 |.next=>∃σ' H',NX X pins σ' H' s'/\D.nx σ' H'
 |.brk=>∃σ' H',NX X pins σ' H' s'/\D.bk σ' H'
 |.cont=>∃σ' H',NX X pins σ' H' s'/\D.ct σ' H'
 |.ret u=>∃v σ' H',NX X pins σ' H' s'/\N3 v u/\D.rt v H'
structure PE(X:Cx)(e:Expr)(t:TE):Prop where
 run:∀(pins:List (Ts×Obj))(s:Tu)(σ:St)(H:Hp)(Q:VK),NX X pins σ H s->t σ H Q->wpAny (model X.prog X.w) X.A (eval e X.env) (EP X pins σ Q) X.xe s
instance {X:Cx}{e:Expr}{t:TE}:CoeFun (PE X e t) fun _=>∀(pins:List (Ts×Obj))(s:Tu)(σ:St)(H:Hp)(Q:VK),NX X pins σ H s->t σ H Q->wpAny (model X.prog X.w) X.A (eval e X.env) (EP X pins σ Q) X.xe s:=⟨PE.run⟩
structure PT(X:Cx)(e:Expr)(t:TT):Prop where
 run:∀(pins:List (Ts×Obj))(s:Tu)(σ:St)(H:Hp)(Q:Bool->Hp->Prop),NX X pins σ H s->t σ H Q->wpAny (model X.prog X.w) X.A (isTrue e X.env (eval e X.env)) (TP X pins σ Q) X.xe s
instance {X:Cx}{e:Expr}{t:TT}:CoeFun (PT X e t) fun _=>∀(pins:List (Ts×Obj))(s:Tu)(σ:St)(H:Hp)(Q:Bool->Hp->Prop),NX X pins σ H s->t σ H Q->wpAny (model X.prog X.w) X.A (isTrue e X.env (eval e X.env)) (TP X pins σ Q) X.xe s:=⟨PT.run⟩
structure PW(X:Cx)(e:Expr)(t:TT):Prop where
 run:∀(Uy:Sem Tr)(pins:List (Ts×Obj))(s:Tu)(σ:St)(H:Hp)(Q:Bool->Hp->Prop),NX X pins σ H s->t σ H Q->wpAny (model X.prog X.w) X.A (isTrue e X.env Uy) (TP X pins σ Q) X.xe s
instance {X:Cx}{e:Expr}{t:TT}:CoeFun (PW X e t) fun _=>∀(Uy:Sem Tr)(pins:List (Ts×Obj))(s:Tu)(σ:St)(H:Hp)(Q:Bool->Hp->Prop),NX X pins σ H s->t σ H Q->wpAny (model X.prog X.w) X.A (isTrue e X.env Uy) (TP X pins σ Q) X.xe s:=⟨PW.run⟩
variable{e:Expr}{X:Cx}
def PW.pt{t:TT}(h:PW X e t):PT X e t:=⟨fun pins s σ H Q I q=>h _ pins s σ H Q I q⟩
structure PA(X:Cx)(es:List Expr)(t:TA):Prop where
 run:∀(pos:Pos)(pins:List (Ts×Obj))(s:Tu)(σ:St)(H:Hp)(Q:TQ->Hp->Prop),NX X pins σ H s->t σ H Q->wpAny (model X.prog X.w) X.A (spliced (backTo pos (starEach es X.env))) (AP X pins σ Q) X.xe s
instance {X:Cx}{es:List Expr}{t:TA}:CoeFun (PA X es t) fun _=>∀(pos:Pos)(pins:List (Ts×Obj))(s:Tu)(σ:St)(H:Hp)(Q:TQ->Hp->Prop),NX X pins σ H s->t σ H Q->wpAny (model X.prog X.w) X.A (spliced (backTo pos (starEach es X.env))) (AP X pins σ Q) X.xe s:=⟨PA.run⟩
structure PS(X:Cx)(st:Stmt)(t:TS):Prop where
 run:∀(pins:List (Ts×Obj))(s:Tu)(σ:St)(H:Hp)(D:Ow),NX X pins σ H s->t D σ H->wpAny (model X.prog X.w) X.A (exec st X.env) (SP X pins D) X.xe s
instance {X:Cx}{st:Stmt}{t:TS}:CoeFun (PS X st t) fun _=>∀(pins:List (Ts×Obj))(s:Tu)(σ:St)(H:Hp)(D:Ow),NX X pins σ H s->t D σ H->wpAny (model X.prog X.w) X.A (exec st X.env) (SP X pins D) X.xe s:=⟨PS.run⟩
structure O9(X:Cx)(st:List Stmt)(t:TS):Prop where
 run:∀(pins:List (Ts×Obj))(s:Tu)(σ:St)(H:Hp)(D:Ow),NX X pins σ H s->t D σ H->wpAny (model X.prog X.w) X.A (execs st X.env) (SP X pins D) X.xe s
instance {X:Cx}{st:List Stmt}{t:TS}:CoeFun (O9 X st t) fun _=>∀(pins:List (Ts×Obj))(s:Tu)(σ:St)(H:Hp)(D:Ow),NX X pins σ H s->t D σ H->wpAny (model X.prog X.w) X.A (execs st X.env) (SP X pins D) X.xe s:=⟨O9.run⟩
variable{s:Tu}{E:Tr->Tu->Prop}{A:Tz}{M:Model}
def bH{α:Type}{t:Sem α}{Q Q':α->Tu->Prop}(h:wpAny M A t Q E s)(hQ:∀a s,Q a s->Q' a s):wpAny M A t Q' E s:=m_ h hQ fun _ _ x=>x
section
variable{X:Cx}
inductive lA(i:Nat)(σ:St)(H:Hp)(Q:VK):Prop
 |mk(v:_):σ[i]?=some (some v)->Q v H->lA i σ H Q
def tC(v:V):TE:=fun _ H Q=>Q v H
def xG{i:Nat}{x:Str}{pos:Pos}(hN:X.N[i]?=some x)(hv:FZ X.env.scope x)(hd:(x==("__debug__":Str))=false:=by decide)(Ug:(x==("__classdict__":Str))=false:=by decide):PE X (.Name x pos) (lA i):=by
 walk_at "p";obtain⟨v,e,h⟩:=h;obtain⟨m,hn,hl⟩:=I.loc;obtain⟨u,r,l⟩:=hl i x v hN e hv;have F':EP X pins σ Q u s:=⟨v,H,I,r,h⟩;rcases l with⟨hk,hm⟩|⟨hk,c,hc,UA⟩
 ·exact wpAny_Name (wpAny_loadName_local I.ok.kind hk hn hm F') hd
 ·rcases hk with hk|hk
  ·exact wpAny_Name (wpAny_loadName_cell I.ok.kind hk hc UA F') hd
  ·exact wpAny_Name (wpAny_loadName_free I.ok.kind hk hc UA F' Ug) hd
def ah{i j pos}:PE X (.Constant (.int i) j pos) (tC (.int i)):=⟨fun _ _ _ H _ I h=>wpAny_Constant_int ⟨.int i,H,I.tok _,⟨_,rfl⟩,h⟩⟩
def fw{b j pos}:PE X (.Constant (.bool b) j pos) (tC (.bl b)):=⟨fun _ _ _ H _ I h=>Constant_bool ⟨.bl b,H,I,rfl,h⟩⟩
def iw{j pos}:PE X (.Constant .none j pos) (tC .non):=⟨fun _ _ _ H _ I h=>Constant_none ⟨.non,H,I,rfl,h⟩⟩
def ai{x j pos}:PE X (.Constant (.str x) j pos) (tC (.str x)):=⟨fun _ _ _ H _ I h=>Calls.Constant_str ⟨.str x,H,I.tok _,⟨_,rfl⟩,h⟩⟩
def Gl(X:Cx)(x:Str):Prop:=X.env.kindOf x=some .globalImplicit
variable{Q:Tr->Tu->Prop}{σ:St}{pins:List (Ts×Obj)}
def fV{E:Tr->Tu->Prop}{x:Str}{pos:Pos}(I:NX X pins σ H s)(hg:Gl X x)(hm:X.mg x=some u)(h:Q u s)
  (hd:(x==("__debug__":Str))=false:=by decide):wpAny (model X.prog X.w) X.A (eval (.Name x pos) X.env) Q E s:=
 Calls.Name_function_global I.ok.kind hg (Calls.loadGlobal_global (by rw[I.ok.glob];exact I.mod.glob.keeps I.bk) hm h) hd
def iy{E:Tr->Tu->Prop}{x:Str}{pos:Pos}(I:NX X pins σ H s)(hg:Gl X x)(hm:X.mg x=none)(hv:bootBuiltins x=some u)(h:Q u s)
  (hn:x≠"__name__":=by decide) (hd:(x==("__debug__":Str))=false:=by decide):wpAny (model X.prog X.w) X.A (eval (.Name x pos) X.env) Q E s:=by
 obtain⟨mb,h1,h2⟩:=I.mod.blt;exact Calls.Name_function_global I.ok.kind hg (Calls.loadGlobal_builtin (by rw[I.ok.glob];exact I.mod.glob.keeps I.bk) hm (by rw[I.ok.blt];exact h1.keeps I.bk) ((h2 x hn).trans hv) h) hd
variable{v:V}
def bi{x:Str}{pos:Pos}(hg:Gl X x)(hm:X.mg x=some u)(r:N3 v u)(hd:(x==("__debug__":Str))=false:=by decide):PE X (.Name x pos) (tC v):=
 ⟨fun _ _ _ H _ I h=>fV I hg hm ⟨v,H,I,r,h⟩ hd⟩
def Bk{x:Str}{pos:Pos}(hg:Gl X x)(hm:X.mg x=none)(hv:bootBuiltins x=some u)(r:N3 v u)(hn:x≠"__name__":=by decide)(hd:(x==("__debug__":Str))=false:=by decide):PE X (.Name x pos) (tC v):=
 ⟨fun _ _ _ H _ I h=>iy I hg hm hv ⟨v,H,I,r,h⟩ hn hd⟩
variable{a b:Expr}{ta tb:TE}{pos:Pos}
def PC(X:Cx)(op:CmpOp)(a b:Expr)(t:TE):Prop:=
 ∀(pins:List (Ts×Obj))(s:Tu)(σ:St)(H:Hp)(Q:VK),NX X pins σ H s->t σ H Q->
  wpAny (model X.prog X.w) X.A (eval a X.env) (fun v s₁=>wpAny (model X.prog X.w) X.A (eval b X.env) (fun u s₂=>wpAny (model X.prog X.w) X.A (compareOp op v u) (EP X pins σ Q) X.xe s₂) X.xe s₁) X.xe s
variable{op:CmpOp}
def xH(b:Expr)(h:op≠.In)(h2:op≠.NotIn):behindInMarks op b=false:=by
 have e1:(op==CmpOp.In)=false:=by cases op<;>first|rfl|exact absurd rfl h
 have e2:(op==CmpOp.NotIn)=false:=by cases op<;>first|rfl|exact absurd rfl h2
 cases b<;>simp[behindInMarks,e1,e2]
def Ig(ta:TE):TE:=fun σ H Q=>ta σ H fun x H1=>Q (.bl (decide (x=.non))) H1
def Ge(ta:TE):TE:=fun σ H Q=>ta σ H fun x H1=>Q (.bl (!decide (x=.non))) H1
def N3.none_iff{v:Tr}(r:N3 x v):(v==Value.none)=decide (x=.non):=by
 cases x with
 |non=>cases r;rfl
 |bl _=>cases r;rfl
 |int _=>obtain⟨t,rfl⟩:=r;rfl
 |str _=>obtain⟨t,rfl⟩:=r;rfl
 |byt _=>obtain⟨t,rfl⟩:=r;rfl
 |flt _=>obtain⟨t,rfl⟩:=r;rfl
 |ref _=>cases r;rfl
 |ty _=>cases r;rfl
def DY{j P'}(ha:PE X a ta):PC X .Is a (.Constant .none j P') (Ig ta):=by
 intro pins s σ H Q I h;refine bH (ha pins s σ H _ I h) fun v s1 hZZ=>?_;walk_at "I";exact Constant_none (is_none_gen ⟨.bl _,H1,I1,by rw[r1.none_iff];rfl,q1⟩)
def Bm{j P'}(ha:PE X a ta):PC X .IsNot a (.Constant .none j P') (Ge ta):=by
 intro pins s σ H Q I h;refine bH (ha pins s σ H _ I h) fun v s1 hZZ=>?_;walk_at "I";exact Constant_none (isnot_none_gen ⟨.bl _,H1,I1,by rw[r1.none_iff];rfl,q1⟩)
inductive Jq(Q:Bool->Hp->Prop)(x:V)(H1:Hp):Prop
 |mk(c:_):x=.bl c->Q c H1->Jq Q x H1
def tB(t:TE):TT:=fun σ H Q=>t σ H fun x H1=>Jq Q x H1
variable{t:TE}
def lB(h:PC X op a b t)(h1:behindInMarks op b=false:=by first|exact xH _ zd zd|rfl):PT X (.Compare a [op] [b] pos) (tB t):=by
 refine⟨?_⟩;intro pins s σ H Q I hw;refine wpAny_isTrue_Compare1 (bH (h pins s σ H _ I hw) fun v s1 h1=>bH h1 fun u s2 h2=>bH h2 fun c s3 hZZ=>?_) h1;walk_at "I";obtain⟨d,rfl,q⟩:=q1;cases r1;exact o_ ⟨H1,I1,q⟩
def bU(h:PE X e t)(he:∀Uy,isTrue e X.env Uy=(do let v <-Uy;standAt e.pos;holding [v] (truthy v)):=by intro _;rfl):PT X e (tB t):=by
 refine⟨?_⟩;intro pins s σ H Q I hw;refine isTrue_plain (bH (h pins s σ H _ I hw) fun v s1 hZZ=>?_) (he _);walk_at "I";obtain⟨d,rfl,q⟩:=q1;cases r1;exact o_ ⟨H1,I1,q⟩
variable{tA ZW:TT}{j':List Expr}
def Ih(t u:TT):TT:=fun σ H Q=>t σ H fun c H1=>if c=true then u σ H1 Q else Q false H1
def Jy(t u:TT):TT:=fun σ H Q=>t σ H fun c H1=>if c=true then Q true H1 else u σ H1 Q
def Ii(t:TT):TT:=fun σ H Q=>t σ H fun c H1=>Q (!c) H1
def bM(ha:PT X a tA):PW X (.BoolOp .And [a] pos) tA:=by
 refine⟨?_⟩;intro wh pins s σ H Q I h;refine isTrue_and (bH (ha pins s σ H Q I h) fun c s1 e=>?_);cases c with
 |true=>exact isTrue_and_nil e
 |false=>exact e
def c8(ha:PT X a tA):PW X (.BoolOp .Or [a] pos) tA:=by
 refine⟨?_⟩;intro wh pins s σ H Q I h;refine isTrue_or (bH (ha pins s σ H Q I h) fun c s1 e=>?_);cases c with
 |false=>exact isTrue_or_nil e
 |true=>exact e
def bY(ha:PT X a tA)(hb:PW X (.BoolOp .And (b::j') pos) ZW):PW X (.BoolOp .And (a::b::j') pos) (Ih tA ZW):=by
 refine⟨?_⟩;intro wh pins s σ H Q I h;refine isTrue_and (bH (ha pins s σ H _ I h) fun c s1⟨H1,I1,q1⟩=>?_);cases c with
 |true=>exact hb wh pins s1 σ H1 Q I1 q1
 |false=>exact⟨H1,I1,q1⟩
def dP(ha:PT X a tA)(hb:PW X (.BoolOp .Or (b::j') pos) ZW):PW X (.BoolOp .Or (a::b::j') pos) (Jy tA ZW):=by
 refine⟨?_⟩;intro wh pins s σ H Q I h;refine isTrue_or (bH (ha pins s σ H _ I h) fun c s1⟨H1,I1,q1⟩=>?_);cases c with
 |true=>exact⟨H1,I1,q1⟩
 |false=>exact hb wh pins s1 σ H1 Q I1 q1
def cr(ha:PT X a tA):PT X (.UnaryOp .Not a pos) (Ii tA):=by
 walk_at "p";exact isTrue_not (ha pins s σ H (fun c H1=>Q (!c) H1) I h)
inductive xI(tb:TE)(σ:St)(Q:VK)(x:V)(H1:Hp):Prop
 |mk(c:_):x=.bl c->(if c=true then tb σ H1 Q else Q (.bl false) H1)->xI tb σ Q x H1
def Gf(ta tb:TE):TE:=fun σ H Q=>ta σ H fun x H1=>xI tb σ Q x H1
inductive xJ(Q:VK)(x:V)(H1:Hp):Prop
 |mk(c:_):x=.bl c->Q (.bl (!c)) H1->xJ Q x H1
def Gg(ta:TE):TE:=fun σ H Q=>ta σ H fun x H1=>xJ Q x H1
def fW{op}(h:PE X a t):PE X (.BoolOp op [a] pos) t:=⟨fun pins s σ H Q I hw=>BoolOp_one (h pins s σ H Q I hw)⟩
def fX(ha:PE X a ta)(hb:PE X (.BoolOp .And (b::j') pos) tb):PE X (.BoolOp .And (a::b::j') pos) (Gf ta tb):=by
 walk_at "p";refine BoolOp_and (bH (ha pins s σ H _ I h) fun v s1 hZZ=>?_);walk_at "I";obtain⟨c,rfl,q1⟩:=q1;cases r1;refine o_ ?_;cases c with
 |true=>exact hb pins s1 σ H1 Q I1 q1
 |false=>exact⟨.bl false,H1,I1,rfl,q1⟩
def xL(ha:PE X a ta):PE X (.UnaryOp .Not a pos) (Gg ta):=by
 walk_at "p";refine UnaryOp_ (bH (ha pins s σ H _ I h) fun v s1 hZZ=>?_);walk_at "I";obtain⟨c,rfl,q1⟩:=q1;cases r1;exact not_of (o_ ⟨.bl (!c),H1,I1,rfl,q1⟩)
def Jz(t:TT)(ta tb:TE):TE:=fun σ H Q=>t σ H fun c H1=>if c=true then ta σ H1 Q else tb σ H1 Q
def xM{c:Expr}(hc:PT X c tA)(ha:PE X a ta)(hb:PE X b tb):PE X (.IfExp c a b pos) (Jz tA ta tb):=by
 walk_at "p";refine wpAny_IfExp (bH (hc pins s σ H _ I h) fun d s1⟨H1,I1,q1⟩=>?_);cases d with
 |true=>exact ha pins s1 σ H1 Q I1 q1
 |false=>exact hb pins s1 σ H1 Q I1 q1
end
def N0(K:ZF)(H:Hp)(a:Ts)(xs:TQ):Prop:=
 Rd H a (.lst xs) ∨
  ∃(o:Obj)(f':Array Tr)(n:Nat),K.lookup a=some o/\o.cls=.type "list"/\o.dict=none/\o.data=.seq f' n/\f'.size<=sizeLine/\N2 xs f'.toList
def NY(K:ZF)(H:Hp)(a:Ts)(xs:TQ):Prop:=
 Rd H a (.tup xs) ∨
  ∃(o:Obj)(f':Array Tr)(n:Nat),K.lookup a=some o/\o.cls=.type "tuple"/\o.data=.seq f' n/\f'.size<=sizeLine/\N2 xs f'.toList
def Ij:Tr->Option V
 |.none=>some .non
 |.bool b=>some (.bl b)
 |.int i _=>some (.int i)
 |.str x _=>some (.str x)
 |.bytes b _=>some (.byt b)
 |.float b _=>some (.flt b)
 |.ref a=>some (.ref a)
 |.type n=>some (.ty n)
 |_=>none
def N3.abs(r:N3 x u):Ij u=some x:=by
 cases x with
 |non=>cases r;rfl
 |bl _=>cases r;rfl
 |int _=>obtain⟨t,rfl⟩:=r;rfl
 |str _=>obtain⟨t,rfl⟩:=r;rfl
 |byt _=>obtain⟨t,rfl⟩:=r;rfl
 |flt _=>obtain⟨t,rfl⟩:=r;rfl
 |ref _=>cases r;rfl
 |ty _=>cases r;rfl
variable{y:V}
def N3.inj(r:N3 x u)(q:N3 y u):x=y:=Kw (r.abs.symm.trans q.abs)
def N2.inj:∀{xs ys:TQ}{us:List Tr},N2 xs us->N2 ys us->xs=ys
 |_,_,_,.nil,.nil=>rfl
 |_,_,_,.cons r t,.cons r' t'=>by rw[r.inj r',N2.inj t t']
section
variable{X:Cx}{pins:List (Ts×Obj)}{σ:St}{H:Hp}{s:Tu}{a:Ts}{xs ys:TQ}
variable{K:ZF}
def N0.of(h:H a=some (.lst xs)):N0 K H a xs:=.inl (.inl h)
def NY.of(h:H a=some (.tup xs)):NY K H a xs:=.inl (.inl h)
def NX.list(I:NX X pins σ H s)(h:N0 X.K H a xs):∃f':List Tr,N2 xs f'/\PlainL s.heap a f'.toArray/\xs.length<=sizeLine:=by
 rcases h with h|⟨o,f',n,hk,hc,hd,hs,hz,r⟩
 ·obtain⟨z,f',n,r,e⟩:=h.ok I.hok;exact⟨f',r,⟨_,n,e,rfl,rfl,rfl⟩,z⟩
 ·refine⟨f'.toList,r,⟨o,n,I.kIn a o hk,hc,hd,by simpa using hs⟩,?_⟩;have e:=r.length;simp only[Lw]at e;lia
def NX.tuple(I:NX X pins σ H s)(h:NY X.K H a xs):∃f':List Tr,N2 xs f'/\IsTup s.heap a f'.toArray/\xs.length<=sizeLine:=by
 rcases h with h|⟨o,f',n,hk,hc,hs,hz,r⟩
 ·obtain⟨z,f',r,p⟩:=h.ok I.hok;exact⟨f',r,p.up,z⟩
 ·refine⟨f'.toList,r,⟨o,I.kIn a o hk,hc,n,by simpa using hs⟩,?_⟩;have e:=r.length;simp only[Lw]at e;lia
def NX.list_inj(I:NX X pins σ H s)(h:N0 X.K H a xs)(h':N0 X.K H a ys):xs=ys:=by
 obtain⟨f',r,⟨o,n,e,_,_,d⟩,_⟩:=I.list h;obtain⟨its',r',⟨o',n',e',_,_,d'⟩,_⟩:=I.list h';rw[e]at e';cases e';rw[d]at d';injection d' with d1 _;have:f'=its':=by simpa using e_ Array.toList d1
 subst this;exact r.inj r'
def NX.tuple_inj(I:NX X pins σ H s)(h:NY X.K H a xs)(h':NY X.K H a ys):xs=ys:=by
 obtain⟨f',r,⟨o,e,_,n,d⟩,_⟩:=I.tuple h;obtain⟨its',r',⟨o',e',_,n',d'⟩,_⟩:=I.tuple h';rw[e]at e';cases e';rw[d]at d';injection d' with d1 _;have:f'=its':=by simpa using e_ Array.toList d1
 subst this;exact r.inj r'
end
abbrev Cx.wish(X:Cx)(E:Tr->Tu->Prop):Cx:={X with xe:=E}
abbrev Cx.nox(X:Cx):Cx:=X.wish fun _ _=>False
def Cx.Ok.wish(ok:X.Ok)(E:Tr->Tu->Prop):(X.wish E).Ok:=
 ⟨ok.mod,ok.kind,ok.glob,ok.blt,ok.above,ok.inj,ok.has,ok.cab,ok.hd,ok.frames,ok.stk,ok.exf,ok.bs,ok.bsz,ok.noex,ok.exfs,ok.funs,ok.frf⟩
def Cx.Ok.unwish(ok:(X.wish E).Ok):X.Ok:=
 ⟨ok.mod,ok.kind,ok.glob,ok.blt,ok.above,ok.inj,ok.has,ok.cab,ok.hd,ok.frames,ok.stk,ok.exf,ok.bs,ok.bsz,ok.noex,ok.exfs,ok.funs,ok.frf⟩
section
variable{X:Cx}{pins:List (Ts×Obj)}{σ:St}{H:Hp}{s:Tu}{E:Tr->Tu->Prop}
def NX.wish(I:NX X pins σ H s)(E:Tr->Tu->Prop):NX (X.wish E) pins σ H s:=⟨I.ok.wish E,I.os,I.bare,I.base,I.loc,I.cell,I.free,I.freeC,I.pin,I.hok,I.len⟩
def NX.unwish(I:NX (X.wish E) pins σ H s):NX X pins σ H s:=⟨I.ok.unwish,I.os,I.bare,I.base,I.loc,I.cell,I.free,I.freeC,I.pin,I.hok,I.len⟩
def SP.unwish{D:Ow}{f:Flow}{s':Tu}(h:SP (X.wish E) pins D f s'):SP X pins D f s':=by
 cases f with
 |next=>obtain⟨σ',H',I,q⟩:=h;exact⟨σ',H',I.unwish,q⟩
 |brk=>obtain⟨σ',H',I,q⟩:=h;exact⟨σ',H',I.unwish,q⟩
 |cont=>obtain⟨σ',H',I,q⟩:=h;exact⟨σ',H',I.unwish,q⟩
 |ret u=>obtain⟨v,σ',H',I,r,q⟩:=h;exact⟨v,σ',H',I.unwish,r,q⟩
def O9.nox{st:List Stmt}{t:TS}(h:O9 X.nox st t):O9 X st t:=⟨fun pins s σ H D I hw=>
 m_ (h pins s σ H D (I.wish _) hw) (fun _ _ q=>q.unwish) fun _ _ z=>False.elim z⟩
end
section
variable{X:Cx}{st:Stmt}{j':List Stmt}{t u:TS}{e:Expr}{te:TE}{pos:Pos}
def Gh:TS:=fun D σ H=>D.nx σ H
def Ik(t u:TS):TS:=fun D σ H=>t {D with nx:=u D} σ H
def aB:O9 X [] Gh:=⟨fun _ _ σ H _ I h=>RA ⟨σ,H,I,h⟩⟩
def af(h1:PS X st t)(h2:O9 X j' u):O9 X (st::j') (Ik t u):=by
 walk_at "u";refine wpAny_execs_cons (bH (h1 pins s σ H {D with nx:=u D} I h) fun f s1 q=>?_);cases f with
 |next=>
  obtain⟨σ',H',I',q⟩:=q;exact h2 pins s1 σ' H' D I' q
 |ret v=>exact q
 |brk=>exact q
 |cont=>exact q
def aj(h1:PS X st t):O9 X [st] t:=by
 walk_at "u";refine wpAny_execs_cons (bH (h1 pins s σ H D I h) fun f s1 q=>?_);cases f with
 |next=>exact RA q
 |ret v=>exact q
 |brk=>exact q
 |cont=>exact q
def NX.quiet{pins:List (Ts×Obj)}{σ:St}(I:NX X pins σ H s):interactive X.env=false:=by simp[interactive,I.ok.kind]
def Gi(te:TE):TS:=fun D σ H=>te σ H fun _ H1=>D.nx σ H1
def aM(he:PE X e te)(hs:swapsWith e none pos.line X.env=pure false:=by rfl):PS X (.Expr e pos) (Gi te):=by
 walk_at "u";exact wpAny_Expr_any (bH (he pins s σ H _ I h) fun v s1⟨x,H1,I1,r1,q1⟩=>⟨σ,H1,I1,q1⟩) I.quiet hs
def Gj(te:TE):TS:=fun D σ H=>te σ H D.rt
def aq(he:PE X e te):PS X (.Return (some e) pos) (Gj te):=by
 walk_at "u";exact wpAny_Return_some (bH (he pins s σ H _ I h) fun v s1⟨x,H1,I1,r1,q1⟩=>⟨x,σ,H1,I1,r1,q1⟩)
def Il(c:TT)(t u:TS):TS:=fun D σ H=>c σ H fun b H1=>if b=true then t D σ H1 else u D σ H1
def aQ{c:Expr}{a b:List Stmt}{tc:TT}(hc:PT X c tc)(ha:O9 X a t)(hb:O9 X b u):PS X (.If c a b pos) (Il tc t u):=by
 walk_at "u";refine wpAny_If (bH (hc pins s σ H _ I h) fun d s1⟨H1,I1,q1⟩=>?_);cases d with
 |true=>exact ha pins s1 σ H1 D I1 q1
 |false=>exact hb pins s1 σ H1 D I1 q1
def DZ:TS:=fun _ _ _=>False
def da:PS X st DZ:=⟨fun _ _ _ _ _ _ h=>h.elim⟩
end
abbrev TG:=V->St->Hp->(St->Hp->Prop)->Prop
abbrev F0:=TQ->St->Hp->(St->Hp->Prop)->Prop
def PG(X:Cx)(X2:Expr)(t:TG):Prop:=
 ∀(pins:List (Ts×Obj))(s:Tu)(σ:St)(H:Hp)(v:V)(u:Tr)(Q:St->Hp->Prop),NX X pins σ H s->N3 v u->t v σ H Q->
  wpAny (model X.prog X.w) X.A (assign X2 X.env u) (fun _ s'=>∃σ' H',NX X pins σ' H' s'/\Q σ' H') X.xe s
def Gk(X:Cx)(ts:List Expr)(t:F0):Prop:=
 ∀(pins:List (Ts×Obj))(s:Tu)(σ:St)(H:Hp)(vs:TQ)(us:List Tr)(Q:St->Hp->Prop),NX X pins σ H s->N2 vs us->t vs σ H Q->
  wpAny (model X.prog X.w) X.A (assignInOrder ((assignEach ts X.env).map (·.2)) us) (fun _ s'=>∃σ' H',NX X pins σ' H' s'/\Q σ' H') X.xe s
abbrev D0:=V->V->V->Hp->(Hp->Prop)->Prop
def Gm(X:Cx)(t:D0):Prop:=
 ∀(pins:List (Ts×Obj))(s:Tu)(σ:St)(H:Hp)(o i v:V)(ov iv u:Tr)(Q:Hp->Prop),NX X pins σ H s->N3 o ov->N3 i iv->N3 v u->t o i v H Q->
  wpAny (model X.prog X.w) X.A (setItem ov iv u) (fun _ s'=>∃H',NX X pins σ H' s'/\Q H') X.xe s
abbrev Im:=V->V->Hp->VK->Prop
def Jr(X:Cx)(op:Operator)(t:Im):Prop:=
 ∀(pins:List (Ts×Obj))(s:Tu)(σ:St)(H:Hp)(x y:V)(v u:Tr)(Q:VK),NX X pins σ H s->N3 x v->N3 y u->t x y H Q->
  wpAny (model X.prog X.w) X.A (inplaceOp op v u) (EP X pins σ Q) X.xe s
section
variable{X:Cx}{pos:Pos}
def uL(i:Nat):TG:=fun v σ H Q=>Q (σ.set i (some v)) H
variable{i:Nat}
def Bn{x:Str}(hN:X.N.Nodup)(hi:X.N[i]?=some x)(hx:DW X.env.scope x)(hf:X.fn x=true\/X.env.scope.names.lookup x=some .local:=by first|exact .inl rfl|exact .inr rfl|assumption):PG X (.Name x pos) (uL i):=by
 intro pins s σ H v u Q I r h;exact wpAny_assign_Name (i3 I hN hi hx r (fun s' I'=>⟨_,H,I',h⟩) hf)
def cG{i:Nat}{x:Str}(hN:X.N.Nodup)(hi:X.N[i]?=some x:=by rfl)(hx:DW X.env.scope x:=by exact Or.inl rfl)(hf:X.fn x=true\/X.env.scope.names.lookup x=some .local:=by first|exact .inl rfl|exact .inr rfl|assumption):PG X (.Name x pos) (uL i):=Bn hN hi hx hf
def Io:F0:=fun vs σ H Q=>vs=[]/\Q σ H
inductive Df(t:TG)(u:F0)(vs:TQ)(σ:St)(H:Hp)(Q:St->Hp->Prop):Prop
 |mk(v r:_):vs=v::r->(t v σ H fun σ' H'=>u r σ' H' Q)->Df t u vs σ H Q
def bB:Gk X [] Io:=by
 intro pins s σ H vs us Q I r h;obtain⟨e,h⟩:=h;subst e;cases r;exact assignInOrder_nil ⟨σ,H,I,h⟩
variable{es:List Expr}
def aw{t:TG}{u:F0}(h1:PG X e t)(h2:Gk X es u)
  (hs:(assignEach (e::es) X.env).map (·.2)=assign e X.env::(assignEach es X.env).map (·.2):=by rfl):Gk X (e::es) (Df t u):=by
 intro pins s σ H vs us Q I r h;obtain⟨v,vr,e1,h⟩:=h;subst e1;cases r with
 |cons r rr=>
  rw[hs];refine assignInOrder_cons (bH (h1 pins s σ H _ _ _ I r h) fun _ s1⟨σ1,H1,I1,q1⟩=>?_);exact h2 pins s1 σ1 H1 _ _ Q I1 rr q1
inductive D1(K:ZF)(n:Nat)(t:F0)(v:V)(σ:St)(H:Hp)(Q:St->Hp->Prop):Prop
 |mk(a xs:_):v=.ref a->NY K H a xs->xs.length=n->t xs σ H Q->D1 K n t v σ H Q
def dA{k:Nat}{t:F0}{n:Nat}(hc:X.calm=true)(h:Gk X es t)
  (hn:(assignEach es X.env).length=n:=by rfl) (M':(assignEach es X.env).findIdx? (·.1)=none:=by rfl):PG X (.Tuple es k pos) (D1 X.K n t):=by
 intro pins s σ H v u Q I r hw;obtain⟨a,xs,e1,hq,hl,hw⟩:=hw;subst e1;cases r;obtain⟨f',rv,ht,hz⟩:=I.tuple hq;refine assign_Tuple_tuple (I.ok.hd hc) ht (by simp[hn,<-hl,rv.length]) M' fun h' hx=>?_;have I1:NX X pins σ H {s with heap:=h'}:=I.kept (t':=s.toks) fun b o e=>hx b o (Kq (Ka e)) e;exact h pins _ σ H xs _ Q I1 (by simpa using rv) hw
def Ip(to ti:TE)(t:D0):TG:=fun v σ H Q=>to σ H fun o H1=>ti σ H1 fun i H2=>t o i v H2 fun H3=>Q σ H3
def xO{o i:Expr}{to ti:TE}{t:D0}(ho:PE X o to)(hi:PE X i ti)(hs:Gm X t)
  (ha:∀v,assign (.Subscript o i pos) X.env v=(do
   let ov <-holding [v] (eval o X.env)
   let iv <-holding [v,ov] (eval i X.env)
   standAt pos
   holding [v,ov,iv] (setItem ov iv v)
   release [v,ov,iv] []):=by intro _;rfl):PG X (.Subscript o i pos) (Ip to ti t):=by
 intro pins s σ H v u Q I r h;rw[ha];refine a_ (q_ (bH (ho pins s σ H _ I h) fun ov s1 hZZ=>?_));walk_at "I";refine a_ (q_ (bH (hi pins s1 σ H1 _ I1 q1) fun iv s2 hZZ=>?_));obtain⟨y,H2,I2,r2,q2⟩:=hZZ;refine a_ (Rb (a_ (q_ (bH (hs pins s2 σ H2 x y v ov iv u _ I2 r1 r2 r q2) fun _ s3⟨H3,I3,q3⟩=>?_))));exact wpAny_release ⟨σ,H3,I3,q3⟩
def D2(te:TE)(g:TG):TS:=fun D σ H=>te σ H fun x H1=>g x σ H1 D.nx
variable{te:TE}
def gB{tg e:Expr}{g:TG}(he:PE X e te)(hg:PG X tg g)(hs:swapsWithSole [tg] e pos.line X.env=pure false:=by rfl)(hw:swappedStores [tg] e X.env=pure none:=by rfl)
  (h1:(assignEach [tg] X.env).map (·.2)=[assign tg X.env]:=by rfl):PS X (.Assign [tg] e pos) (D2 te g):=by
 walk_at "u";refine wpAny_Assign_stores (bH (he pins s σ H _ I h) fun v s1 hZZ=>?_) hs hw;walk_at "I";rw[h1];exact bH (hg pins s1 σ H1 x v _ I1 r1 q1) fun _ s2 q=>q
def xP{x:Str}{P':Pos}(hN:X.N.Nodup)(hi:X.N[i]?=some x)(hx:DW X.env.scope x)(he:PE X e te)(hs:swapsWith e (some (.Name x P')) pos.line X.env=pure false:=by rfl)(hf:X.fn x=true\/X.env.scope.names.lookup x=some .local:=by first|exact .inl rfl|exact .inr rfl|assumption):
  PS X (.Assign [.Name x P'] e pos) (D2 te (uL i)):=by
 walk_at "u";refine wpAny_Assign_Name (bH (he pins s σ H _ I h) fun v s1 hZZ=>?_) hs;obtain⟨y,H1,I1,r1,q1⟩:=hZZ;exact i3 I1 hN hi hx r1 (fun s2 I2=>⟨_,H1,I2,q1⟩) hf
def bL{i:Nat}{x:Str}{e:Expr}{te:TE}{P':Pos}(hN:X.N.Nodup)(he:PE X e te)(hi:X.N[i]?=some x:=by rfl)(hx:DW X.env.scope x:=by exact Or.inl rfl)(hs:swapsWith e (some (.Name x P')) pos.line X.env=pure false:=by rfl)(hf:X.fn x=true\/X.env.scope.names.lookup x=some .local:=by first|exact .inl rfl|exact .inr rfl|assumption):PS X (.Assign [.Name x P'] e pos) (D2 te (uL i)):=xP hN hi hx he hs hf
inductive Gn(i:Nat)(te:TE)(ti:Im)(D:Ow)(σ:St)(H:Hp):Prop
 |mk(x:_):σ[i]?=some (some x)->(te σ H fun y H1=>ti x y H1 fun z H2=>D.nx (σ.set i (some z)) H2)->Gn i te ti D σ H
def sB{x:Str}{op:Operator}{ti:Im}{P':Pos}(hN:X.N.Nodup)(hi:X.N[i]?=some x)(hx:DW X.env.scope x)(he:PE X e te)(ho:Jr X op ti)(hf:X.fn x=true\/X.env.scope.names.lookup x=some .local:=by first|exact .inl rfl|exact .inr rfl|assumption):
  PS X (.AugAssign (.Name x P') op e pos) (Gn i te ti):=by
 walk_at "u";obtain⟨v,e1,h⟩:=h;obtain⟨m,hn,hl⟩:=I.loc;have vis:FZ X.env.scope x:=by rcases hx with k|k;exact .inl k;exact .inr (.inl k)
 obtain⟨u,r,l⟩:=hl i x v hi e1 vis;refine wpAny_AugAssign_Name ?_;have go:wpAny (model X.prog X.w) X.A (eval e X.env) (fun w s₂=>wpAny (model X.prog X.w) X.A (inplaceOp op u w) (fun r s₃=>wpAny (model X.prog X.w) X.A (storeName X.env x r) (fun _=>SP X pins D .next) X.xe s₃) X.xe s₂) X.xe s:=by
  refine bH (he pins s σ H _ I h) fun w s1 hZZ=>?_;obtain⟨y,H1,I1,r1,q1⟩:=hZZ;refine bH (ho pins s1 σ H1 v y u w _ I1 r r1 q1) fun z s2 hZZ=>?_;obtain⟨zv,H2,I2,r2,q2⟩:=hZZ;exact i3 I2 hN hi hx r2 (fun s3 I3=>⟨_,H2,I3,q2⟩) hf
 rcases l with⟨hk,hm⟩|⟨hk,c,hc,UA⟩
 ·exact wpAny_loadName_local I.ok.kind hk hn hm go
 ·rcases hk with hk|hk
  ·exact wpAny_loadName_cell I.ok.kind hk hc UA go
  ·rcases hx with k|k
   ·have:X.env.scope.names.lookup x=some .free:=hk;rw[k]at this;cases this
   ·have:X.env.scope.names.lookup x=some .free:=hk;rw[k]at this;cases this
inductive Js(f:Int->Int->Int)(x:V)(y:V)(H:Hp)(Q:VK):Prop
 |mk(i j:_):x=.int i->y=.int j->Q (.int (f i j)) H->Js f x y H Q
def sC:Jr X .Add (Js fun i j=>i+j):=by
 intro pins s σ H x y v u Q I r1 r2 h;obtain⟨i,j,e1,e2,q⟩:=h;subst e1;subst e2;obtain⟨t,rfl⟩:=r1;obtain⟨t',rfl⟩:=r2;exact iadd_int ⟨.int _,H,I.tok _,⟨_,rfl⟩,q⟩
end
section
variable{X:Cx}{pos:Pos}
inductive xQ(c:TT)(tb:TS)(D:Ow)(σ:St)(H:Hp):Prop
 | mk (W:Nat->St->Hp->Prop):(∃m,W m σ H)->(∀m σ H,W m σ H->
 c σ H fun b H1=>if b=true then ∃N:St->Hp->Prop,(∀σ' H',N σ' H'->∃m',m'<m/\W m' σ' H')/\tb {D with nx:=N,ct:=N,bk:=D.nx} σ H1 else D.nx σ H1)->xQ c tb D σ H
def fz{c:Expr}{body:List Stmt}{tc:TT}{tb:TS}(hp:PassesOwn (model X.prog X.w) X.A X.env X.xe)(hc:PT X c tc)(hb:O9 X body tb):PS X (.While c body [] pos) (xQ tc tb):=by
 walk_at "u";obtain⟨W,⟨m0,w0⟩,UV⟩:=h;refine wpAny_While (codeAny_whileLoop (fun n s'=>∃σ' H',NX X pins σ' H' s'/\W n σ' H') ?_ m0 ⟨σ,H,I,w0⟩);rintro n s1 ⟨σ1,H1,I1,w1⟩;refine D_ hp (bH (hc pins s1 σ1 H1 _ I1 (UV n σ1 H1 w1)) fun b s2⟨H2,I2,q2⟩=>?_);cases b with
 |true=>
  obtain⟨N,hN,q2⟩:=q2;rw[g_ rfl];refine D_ hp (bH (hb pins s2 σ1 H2 _ I2 q2) fun f s3 q3=>?_);cases f with
  |next=>
   obtain⟨σ3,H3,I3,n3⟩:=q3;obtain⟨m',hm,w3⟩:=hN σ3 H3 n3;exact⟨m',hm,σ3,H3,I3,w3⟩
  |cont=>
   obtain⟨σ3,H3,I3,n3⟩:=q3;obtain⟨m',hm,w3⟩:=hN σ3 H3 n3;exact⟨m',hm,σ3,H3,I3,w3⟩
  |brk=>exact q3
  |ret v=>exact q3
 |false=>
  rw[f_ Kh];exact RA ⟨σ1,H2,I2,q2⟩
end
structure It where
 go:Nat->Hp->Prop
 yld:Nat->Hp->V->Hp->Prop
 stop:Nat->Hp->Prop
def m5(X:Cx)(pins:List (Ts×Obj))(H:Hp)(b:Ts):Prop:=
 H b=none/\b≠X.env.locals/\b∉X.fs/\(b∈X.ex\/X.s₀.heap.objs.size<=b)/\(∀x c,X.env.cells.lookup x=some c->c≠b)/\∀p∈X.pn++pins,p.1≠b
variable{σ:St}{pins:List (Ts×Obj)}
def NX.fpOk{H H':Hp}(I:NX X pins σ H s)(hb:s.heap.objs.size<=b)(hn:H' b=none):m5 X pins H' b:=by
 refine⟨hn,LQ (Kf I.lt hb),I.nofs hb,.inr (Kx I.sz hb),fun x c e z=>?_,fun p hp z=>?_⟩
 ·obtain⟨v,q⟩:=I.cell x c e;exact absurd (Kf q.lt (by rw[z];exact hb)) (K4 _)
 ·exact absurd (Kf (Ka (I.pin p hp).1) (by rw[z];exact hb)) (K4 _)
structure oH(P:Tv)(w:Tw)(K:ZF)(tg:Expr)(J:It)(fp:List Ts)(it:Ts)(tn:Nat->Heap->Prop):Prop where
 mem:it∈fp
 obj:∀i h,tn i h->∀b∈fp,∃o,h.get? b=some o/\∀v,o.data≠.cell v
 keep:∀i h h',tn i h->(∀b∈fp,∀o,h.get? b=some o->h'.get? b=some o)->tn i h'
 item:∀(X:Cx),X.prog=P->X.w=w->X.K=K->X.calm=true->∀(i:Nat)(pins:List (Ts×Obj))(s:Tu)(σ:St)(H:Hp)(E:Tr->Tu->Prop),NX X pins σ H s->(∀b∈fp,m5 X pins H b)->tn i s.heap->J.go i H->
  wpAny (model P w) X.A (pyNext (.ref it)) (fun r s1=>∃u,r=some u /\
   wpAny (model P w) X.A (letOwnedTupleGo tg (.ref it) u) (fun _ s2=>∃x H',NX X pins σ H' s2/\N3 x u/\J.yld i H x H'/\tn (i+1) s2.heap/\∀b∈fp,H' b=none) E s1) E s
 done:∀(X:Cx),X.prog=P->X.w=w->X.K=K->X.calm=true->∀(i:Nat)(pins:List (Ts×Obj))(s:Tu)(σ:St)(H:Hp)(E:Tr->Tu->Prop),NX X pins σ H s->(∀b∈fp,m5 X pins H b)->tn i s.heap->J.stop i H->
  wpAny (model P w) X.A (pyNext (.ref it)) (fun r s1=>r=none/\NX X pins σ H s1) E s
 self:∀(A:Tz)(i:Nat)(s:Tu)(Q:Tr->Tu->Prop)(E:Tr->Tu->Prop),tn i s.heap->Q (.ref it) s->wpAny (model P w) A (pyIter (.ref it)) Q E s
abbrev TI:=St->Hp->(It->Hp->Prop)->Prop
inductive HR(X:Cx)(pins:List (Ts×Obj))(σ:St)(tg:Expr)(R:It->Hp->Prop)(itv:Tr)(s2:Tu):Prop
 |mk(it:Ts)(fp:List Ts)(tn:Nat->Heap->Prop)(J:It)(H':Hp):itv=.ref it->NX X pins σ H' s2->oH X.prog X.w X.K tg J fp it tn->tn 0 s2.heap->(∀b∈fp,m5 X pins H' b)->R J H'->HR X pins σ tg R itv s2
structure PI(X:Cx)(tg iter:Expr)(wi:TI):Prop where
 run:∀(pins:List (Ts×Obj))(s:Tu)(σ:St)(H:Hp)(R:It->Hp->Prop),NX X pins σ H s->wi σ H R->
  wpAny (model X.prog X.w) X.A (eval iter X.env) (fun v s1=>wpAny (model X.prog X.w) X.A (pyIter v) (HR X pins σ tg R) X.xe s1) X.xe s
instance {X:Cx}{tg iter:Expr}{wi:TI}:CoeFun (PI X tg iter wi) fun _=>∀(pins:List (Ts×Obj))(s:Tu)(σ:St)(H:Hp)(R:It->Hp->Prop),NX X pins σ H s->wi σ H R->
  wpAny (model X.prog X.w) X.A (eval iter X.env) (fun v s1=>wpAny (model X.prog X.w) X.A (pyIter v) (HR X pins σ tg R) X.xe s1) X.xe s:=⟨PI.run⟩
def qC{M:Model}{A:Tz}{E:Tr->Tu->Prop}{tg:Expr}{it:Ts}{u:Tr}{o:Obj}{n:String}{vs:Array Tr}{Q:Unit->Tu->Prop}(ho:s.heap.get? it=some o)(hc:o.cls=.type n)(hd:o.data=.fields vs)
  (hn:["enumerate","zip","dict_itemiterator","dict_reverseitemiterator","odict_iterator","itertools.zip_longest","itertools.pairwise"].contains n=false) (hQ:Q () s):wpAny M A (letOwnedTupleGo tg (.ref it) u) Q E s:=by
 unfold letOwnedTupleGo;cases tg<;>first
  |exact c_ hQ
  | (cases u<;>first
    |exact c_ hQ
    | (refine a_ (wpAny_load ho ?_)
       rw[hc,hd];show wpAny M A (if(["enumerate","zip","dict_itemiterator","dict_reverseitemiterator","odict_iterator","itertools.zip_longest","itertools.pairwise"].contains n&&vs[0]?==some (rawInt _))=true then _ else _) Q E s;rw[f_ (by intro h;rw[hn,Bool.false_and]at h;cases h)];exact c_ hQ))
def F5(K:ZF)(a:Ts):It:=
 ⟨fun i H=>∃xs x,N0 K H a xs/\xs[i]?=some x,fun i H x H'=>H'=H/\∀xs,N0 K H a xs->xs[i]?=some x,fun i H=>∃xs,N0 K H a xs/\xs.length<=i⟩
def F6(K:ZF)(a:Ts):It:=
 ⟨fun i H=>∃xs x,NY K H a xs/\xs[i]?=some x,fun i H x H'=>H'=H/\∀xs,NY K H a xs->xs[i]?=some x,fun i H=>∃xs,NY K H a xs/\xs.length<=i⟩
def F7(lo:Int)(n:Nat):It:=⟨fun i _=>i<n,fun i H x H'=>H'=H/\x=.int (lo+i),fun i _=>n<=i⟩
variable{tg:Expr}{K:ZF}
def wy(a it:Ts):oH P w K tg (F5 K a) [it] it (fun i h=>h.IsListIter it a i) where
 mem:=by simp
 obj:=fun i h st b hb=>by
  have e:b=it:=by simpa using hb
  subst e;obtain⟨o,e,c,d⟩:=st;exact⟨o,e,fun v z=>by rw[d]at z;cases z⟩
 keep:=fun i h h' st k=>st.at fun o e=>k it (by simp) o e
 item:=by
  walk_at "r";obtain⟨xs,x,hq,hx⟩:=hg;obtain⟨f',rv,p,hz⟩:=I.list hq;obtain⟨u,hu,ru⟩:=rv.get hx;walk_at "x";refine wpAny_pyNext_list_item st p.isList (x:=u) (by simpa using hu) fun h' Vi sb=>?_;have I1:NX X pins σ H {s with heap:=h'}:=I.turned (t':=s.toks) (fun b o hb e=>(sb.2 b hb).trans e) f0 f1 f3 f4 f5;obtain⟨o,e,c,d⟩:=id Vi;exact⟨u,rfl,qC (s:={s with heap:=h'}) e c d zd ⟨x,H,I1,ru,⟨rfl,fun ys hy=>by rw[I.list_inj hy hq];exact hx⟩,Vi,fun b hb=>(hf b hb).1⟩⟩
 done:=by
  walk_at "r";obtain⟨xs,hq,hx⟩:=hg;obtain⟨f',rv,p,hz⟩:=I.list hq;walk_at "x";have hl:=rv.length;exact wpAny_pyNext_list_end (I.ok.hd hc) st p.isList (by simp;lia) fun h' eb=>⟨rfl,I.turned (t':=s.toks) (fun b o hb e=>eb b o hb e) f0 f1 f3 f4 f5⟩
 self:=fun _ _ _ _ _ st h=>wpAny_pyIter_listiter st h
def sD(a it:Ts):oH P w K tg (F6 K a) [it] it (fun i h=>h.IsTupleIter it a i) where
 mem:=by simp
 obj:=fun i h st b hb=>by
  have e:b=it:=by simpa using hb
  subst e;obtain⟨o,e,c,d⟩:=st;exact⟨o,e,fun v z=>by rw[d]at z;cases z⟩
 keep:=fun i h h' st k=>st.at fun o e=>k it (by simp) o e
 item:=by
  walk_at "r";obtain⟨xs,x,hq,hx⟩:=hg;obtain⟨f',rv,p,hz⟩:=I.tuple hq;obtain⟨u,hu,ru⟩:=rv.get hx;walk_at "x";refine wpAny_pyNext_tuple_item st (show s.heap.IsTuple a f'.toArray from p) (x:=u) (by simpa using hu) fun h' Vi sb=>?_;have I1:NX X pins σ H {s with heap:=h'}:=I.turned (t':=s.toks) (fun b o hb e=>(sb.2 b hb).trans e) f0 f1 f3 f4 f5;obtain⟨o,e,c,d⟩:=id Vi;exact⟨u,rfl,qC (s:={s with heap:=h'}) e c d zd ⟨x,H,I1,ru,⟨rfl,fun ys hy=>by rw[I.tuple_inj hy hq];exact hx⟩,Vi,fun b hb=>(hf b hb).1⟩⟩
 done:=by
  walk_at "r";obtain⟨xs,hq,hx⟩:=hg;obtain⟨f',rv,p,hz⟩:=I.tuple hq;walk_at "x";have hl:=rv.length;exact wpAny_pyNext_tuple_end (I.ok.hd hc) st (show s.heap.IsTuple a f'.toArray from p) (by simp;lia) fun h' eb=>⟨rfl,I.turned (t':=s.toks) (fun b o hb e=>eb b o hb e) f0 f1 f3 f4 f5⟩
 self:=fun _ _ _ _ _ st h=>wpAny_pyIter_tupleiter st h
def sE(it:Ts)(lo:Int)(n:Nat):oH P w K tg (F7 lo n) [it] it (fun i h=>IsRangeIter h it (lo+(i:Nat)*1) ((n:Int)-(i:Nat)) 1) where
 mem:=by simp
 obj:=fun i h st b hb=>by
  have e:b=it:=by simpa using hb
  subst e;exact⟨_,st,fun v z=>by
   have z':Data.fields _=Data.cell v:=z;cases z'⟩
 keep:=fun i h h' st k=>k it (by simp) _ st
 item:=by
  walk_at "r";walk_at "x";have W:=Walks.range (prog:=X.prog) (w:=X.w) (I.ok.hd hc) it lo 1 n;refine W.item i s _ _ hg st fun v h' tk hv Vi kk=>?_;obtain⟨t,rfl⟩:=hv;have I1:NX X pins σ H {s with heap:=h',toks:=tk}:=I.turned (fun b o hb e=>kk b o (by simpa using hb) e) f0 f1 f3 f4 f5;refine⟨_,rfl,qC (s:={s with heap:=h',toks:=tk}) (n:="range_iterator") Vi rfl rfl zd ⟨.int (lo+i),H,I1,⟨t,?_⟩,⟨rfl,rfl⟩,Vi,fun b hb=>(hf b hb).1⟩⟩;rw[Int.mul_one]
 done:=by
  walk_at "r";walk_at "x";exact wpAny_pyNext_range_end (I.ok.hd hc) st (by have:n<=i:=hg;lia) fun h' eb=>⟨rfl,I.turned (t':=s.toks) (fun b o hb e=>eb b o hb e) f0 f1 f3 f4 f5⟩
 self:=fun _ _ _ _ _ st h=>wpAny_pyIter_rangeiter st h
section
variable{X:Cx}{tg:Expr}
inductive xS(K:ZF)(R:It->Hp->Prop)(x:V)(H1:Hp):Prop
 |mk(a:_):x=.ref a->(∃xs,N0 K H1 a xs)->R (F5 K a) H1->xS K R x H1
def Go(K:ZF)(tl:TE):TI:=fun σ H R=>tl σ H fun x H1=>xS K R x H1
inductive Dg(K:ZF)(R:It->Hp->Prop)(x:V)(H1:Hp):Prop
 |mk(a:_):x=.ref a->(∃xs,NY K H1 a xs)->R (F6 K a) H1->Dg K R x H1
def Iq(K:ZF)(tl:TE):TI:=fun σ H R=>tl σ H fun x H1=>Dg K R x H1
def de{l:Expr}{tl:TE}(hl:PE X l tl):PI X tg l (Go X.K tl):=by
 refine⟨?_⟩;intro pins s σ H R I h;refine bH (hl pins s σ H _ I h) fun v s1 hZZ=>?_;walk_at "I";obtain⟨a,e,⟨xs,hq⟩,q⟩:=q1;subst e;cases r1;obtain⟨f',rv,p,hz⟩:=I1.list hq;refine RZ p.isList ?_;refine⟨s1.heap.objs.size,[s1.heap.objs.size],_,_,H1,rfl,I1.kept (t':=s1.toks) fun b o e=>JQ _ e,wy a _,⟨_,Ki _ rfl,rfl,rfl⟩,fun b hb=>?_,q⟩;have e:b=s1.heap.objs.size:=by simpa using hb
 subst e;exact I1.fpOk (J2 _) (I1.hok.fresh (J2 _))
def iz{l:Expr}{tl:TE}(hl:PE X l tl):PI X tg l (Iq X.K tl):=by
 refine⟨?_⟩;intro pins s σ H R I h;refine bH (hl pins s σ H _ I h) fun v s1 hZZ=>?_;walk_at "I";obtain⟨a,e,⟨xs,hq⟩,q⟩:=q1;subst e;cases r1;obtain⟨f',rv,p,hz⟩:=I1.tuple hq;refine Rh (show s1.heap.IsTuple a f'.toArray from p) ?_;refine⟨s1.heap.objs.size,[s1.heap.objs.size],_,_,H1,rfl,I1.kept (t':=s1.toks) fun b o e=>JQ _ e,sD a _,⟨_,Ki _ rfl,rfl,rfl⟩,fun b hb=>?_,q⟩;have e:b=s1.heap.objs.size:=by simpa using hb
 subst e;exact I1.fpOk (J2 _) (I1.hok.fresh (J2 _))
def xU{R:It->Hp->Prop}{E:Tr->Tu->Prop}{lo hi:Int}{t u v:Tok}{tk:Nat}(I:NX X pins σ H s)(h1:-(2^62)<=lo)(h2:lo<2^62)(h3:-(2^62)<=hi)(h4:hi<2^62)
  (q:R (F7 lo (hi-lo).toNat) H):wpAny (model X.prog X.w) X.A (pyIter (.ref s.heap.objs.size)) (HR X pins σ tg R) E {s with heap:=s.heap.push {cls:=.type "range",data:=.fields #[.int lo t,.int hi u,.int 1 v]},toks:=tk}:=by
 refine wpAny_pyIter_range (IsRange.new ..) (small_one h1 h2 h3 h4) ?_;have I1:NX X pins σ H {s with heap:=s.heap.push {cls:=.type "range",data:=.fields #[.int lo t,.int hi u,.int 1 v]},toks:=tk}:=I.kept fun b o e=>JQ _ e;refine⟨(s.heap.push {cls:=.type "range",data:=.fields #[.int lo t,.int hi u,.int 1 v]}).objs.size,[(s.heap.push {cls:=.type "range",data:=.fields #[.int lo t,.int hi u,.int 1 v]}).objs.size],_,_,H,rfl,
  I1.kept (t':=tk) fun b o e=>JQ _ e,sE _ lo (hi-lo).toNat,?_,fun b hb=>?_,q⟩
 ·have e1:lo+((0:Nat):Int)*1=lo:=by simp
  have e2:(((hi-lo).toNat:Nat):Int)-((0:Nat):Int)=Builtin.Range.rangeSize lo hi 1:=by rw[rangeSize_one];split<;>lia
  show IsRangeIter _ _ (lo+((0:Nat):Int)*1) ((((hi-lo).toNat:Nat):Int)-((0:Nat):Int)) 1;rw[e1,e2];exact Ki _ rfl
 ·have e:b=(s.heap.push {cls:=.type "range",data:=.fields #[.int lo t,.int hi u,.int 1 v]}).objs.size:=by simpa using hb
  subst e;exact I1.fpOk (J2 _) (I1.hok.fresh (J2 _))
inductive xV(R:It->Hp->Prop)(vs:TQ)(H1:Hp):Prop
 |mk(j:Int):vs=[.int j]->-(2^62)<=j->j<2^62->R (F7 0 j.toNat) H1->xV R vs H1
def Gp(ta:TA):TI:=fun σ H R=>ta σ H fun vs H1=>xV R vs H1
def gR{a:Expr}{ta:TA}{p pos:Pos}(hg:Gl X "range")(hm:X.mg "range"=none)(ha:PA X [a] ta)(hs:starEach [a] X.env=[(false,eval a X.env)]:=by rfl):PI X tg (.Call (.Name "range" p) [a] [] pos) (Gp ta):=by
 refine⟨?_⟩;intro pins s σ H R I h;refine Call_ (iy I hg hm boot_range (Lc (bH (ha pos pins s σ H _ I h) fun us s1 hZZ=>?_) hs rfl));obtain⟨vs,H1,I1,r1,q1⟩:=hZZ;obtain⟨j,e,q1,q2,q⟩:=q1;subst e;cases r1 with
 |cons r rr=>
  cases rr;obtain⟨t,rfl⟩:=r;exact call_range_1 (xU I1 zo zo q1 q2 (by simpa using q))
def Ir(wi:TI)(g:TG)(tb:TS):TS:=fun D σ H=>wi σ H fun J H1=>∃W:Nat->Nat->St->Hp->Prop,(∃m,W 0 m σ H1)/\∀i m σ H,W i m σ H->
 (J.stop i H/\D.nx σ H)\/(J.go i H/\∃N:St->Hp->Prop,(∀σ' H',N σ' H'->∃m',m'<m/\W (i+1) m' σ' H')/\∀x H',J.yld i H x H'->g x σ H' fun σ2 H2=>tb {D with nx:=N,ct:=N,bk:=D.nx} σ2 H2)
def fg(fp:List Ts)(h:Heap):List (Ts×Obj):=fp.filterMap fun b=>(h.get? b).map fun o=>(b,o)
variable{fp:List Ts}
def iA{o:Obj}(hb:b∈fp)(e:h.get? b=some o):(b,o)∈fg fp h:=List.mem_filterMap.mpr ⟨b,hb,by rw[e];rfl⟩
def nB{p:Ts×Obj}(hp:p∈fg fp h):p.1∈fp/\h.get? p.1=some p.2:=by
 obtain⟨b,hb,e⟩:=List.mem_filterMap.mp hp;cases q:h.get? b with
 |none=>rw[q]at e;cases e
 |some o=>
  rw[q]at e;have e':(b,o)=p:=Kw e;subst e';exact⟨hb,q⟩
def NX.pinned(I:NX X pins σ H s)(hf:∀b∈fp,m5 X pins H b)(ho:∀b∈fp,∃o,s.heap.get? b=some o/\∀v,o.data≠.cell v):NX X (pins++fg fp s.heap) σ H s:=
 I.pins_of fun p hp=>(Ko.mp hp).elim (fun z=>I.pin p (Km _ z)) fun z=>by
  obtain⟨hb,e⟩:=nB z;obtain⟨f0,f1,f2,_⟩:=hf p.1 hb;obtain⟨o,e',d⟩:=ho p.1 hb;rw[e]at e';cases e';exact⟨e,f0,f1,f2,d⟩
def NX.unpinned{pins pl:List (Ts×Obj)}(I:NX X (pins++pl) σ H s):NX X pins σ H s:=I.pins_of fun p hp=>I.pin p (Km _ (K3 _ hp))
def dB{iter:Expr}{body:List Stmt}{wi:TI}{g:TG}{tb:TS}{pos:Pos}(hp:PassesOwn (model X.prog X.w) X.A X.env X.xe)(hc:X.calm=true)(hi:PI X tg iter wi)(hg:PG X tg g)(hb:O9 X body tb)
  (hs:∀x,foldedSetIterable iter X.env x=pure x:=by intro _;rfl):PS X (.For tg iter body [] pos) (Ir wi g tb):=by
 walk_at "u";refine wpAny_For (bH (hi pins s σ H _ I h) fun v s1 h1=>bH h1 fun itv s2 h2=>?_) hs;obtain⟨it,fp,tn,J,H2,e,I2,T,YG,f2,W,⟨m0,w0⟩,UV⟩:=h2;subst e;have XI:∀{H':Hp},(∀b∈fp,H' b=none)->∀b∈fp,m5 X pins H' b:=fun hn b hb=>⟨hn b hb,(f2 b hb).2⟩;refine codeAny_forLoop_any (fun n s'=>∃i σ' H',NX X pins σ' H' s'/\tn i s'.heap/\(∀b∈fp,H' b=none)/\W i n σ' H') ?_ m0 ⟨0,σ,H2,I2,YG,fun b hb=>(f2 b hb).1,w0⟩;rintro n s3 ⟨i,σ3,H3,I3,st3,fr3,w3⟩;rcases UV i n σ3 H3 w3 with⟨stop,qn⟩|⟨go,N,hN,step⟩
 ·refine D_ hp (bH (T.done X rfl rfl rfl hc i pins s3 σ3 H3 X.xe I3 (XI fr3) st3 stop) fun r s4⟨hr,I4⟩=>?_);subst hr;exact RA ⟨σ3,H3,I4,qn⟩
 ·refine D_ hp (bH (T.item X rfl rfl rfl hc i pins s3 σ3 H3 X.xe I3 (XI fr3) st3 go) fun r s4⟨u,hr,h4⟩=>?_);subst hr;refine D_ hp (bH h4 fun _ s5 hZZ=>?_);obtain⟨x,H5,I5,r5,y5,X5,fr5⟩:=hZZ;have I5':=I5.pinned (XI fr5) (T.obj _ _ X5);refine D_ hp (bH (hg _ s5 σ3 H5 x u _ I5' r5 (step x H5 y5)) fun _ s6⟨σ6,H6,I6,q6⟩=>?_);refine D_ hp (bH (hb _ s6 σ6 H6 _ I6 q6) fun f s7 q7=>?_);have again:∀{σ7:St}{H7:Hp},NX X (pins++fg fp s5.heap) σ7 H7 s7->N σ7 H7->∃m,m<n/\∃i σ' H',NX X pins σ' H' s7/\tn i s7.heap/\(∀b∈fp,H' b=none)/\W i m σ' H':=fun{σ7 H7}I7 n7=>by
   obtain⟨m',hm,w7⟩:=hN σ7 H7 n7;refine⟨m',hm,i+1,σ7,H7,I7.unpinned,T.keep _ _ _ X5 fun b hb o e=>(I7.pin (b,o) (Km _ (Km _ (iA hb e)))).1,fun b hb=>?_,w7⟩;obtain⟨o,e,d⟩:=T.obj _ _ X5 b hb;exact(I7.pin (b,o) (Km _ (Km _ (iA hb e)))).2.1
  cases f with
  |next=>obtain⟨σ7,H7,I7,n7⟩:=q7;exact again I7 n7
  |cont=>obtain⟨σ7,H7,I7,n7⟩:=q7;exact again I7 n7
  |brk=>obtain⟨σ7,H7,I7,q7⟩:=q7;exact⟨σ7,H7,I7.unpinned,q7⟩
  |ret v=>obtain⟨x7,σ7,H7,I7,r7,q7⟩:=q7;exact⟨x7,σ7,H7,I7.unpinned,r7,q7⟩
end
def lC{g:TG}{tb:TS}{D:Ow}(Pv:Nat->St->Hp->Prop)(h0:Pv 0 σ H)(hl:∀i σ H,i<=xs.length->Pv i σ H->N0 K H a xs)
  (hs:∀i x σ H,xs[i]?=some x->Pv i σ H->g x σ H fun σ2 H2=>tb {D with nx:=Pv (i+1),ct:=Pv (i+1),bk:=D.nx} σ2 H2) (hd:∀σ H,Pv xs.length σ H->D.nx σ H) :
  ∃W:Nat->Nat->St->Hp->Prop,(∃m,W 0 m σ H)/\∀i m σ H,W i m σ H->
   ((F5 K a).stop i H/\D.nx σ H)\/((F5 K a).go i H/\∃N:St->Hp->Prop,(∀σ' H',N σ' H'->∃m',m'<m/\W (i+1) m' σ' H')/\∀x H',(F5 K a).yld i H x H'->g x σ H' fun σ2 H2=>tb {D with nx:=N,ct:=N,bk:=D.nx} σ2 H2):=by
 refine⟨fun i m σ H=>m=xs.length-i/\i<=xs.length/\Pv i σ H,⟨xs.length,by simp,KO _,h0⟩,?_⟩;rintro i m σ H ⟨rfl,hi,p⟩;have q:=hl i σ H hi p;by_cases Md:i<xs.length
 ·refine .inr ⟨⟨xs,xs[i],q,by simp[Md]⟩,Pv (i+1),fun σ' H' p'=>⟨xs.length-(i+1),zo,rfl,Md,p'⟩,fun x H' y=>?_⟩;obtain⟨e,y⟩:=y;subst e;exact hs i x σ _ (y xs q) p
 ·have e:i=xs.length:=by lia
  subst e;exact .inl ⟨⟨xs,q,J2 _⟩,hd σ H p⟩
def kr{g:TG}{tb:TS}{D:Ow}(Pv:Nat->St->Hp->Prop)(h0:Pv 0 σ H)(hl:∀i σ H,i<=xs.length->Pv i σ H->NY K H a xs)
  (hs:∀i x σ H,xs[i]?=some x->Pv i σ H->g x σ H fun σ2 H2=>tb {D with nx:=Pv (i+1),ct:=Pv (i+1),bk:=D.nx} σ2 H2) (hd:∀σ H,Pv xs.length σ H->D.nx σ H) :
  ∃W:Nat->Nat->St->Hp->Prop,(∃m,W 0 m σ H)/\∀i m σ H,W i m σ H->
   ((F6 K a).stop i H/\D.nx σ H)\/((F6 K a).go i H/\∃N:St->Hp->Prop,(∀σ' H',N σ' H'->∃m',m'<m/\W (i+1) m' σ' H')/\∀x H',(F6 K a).yld i H x H'->g x σ H' fun σ2 H2=>tb {D with nx:=N,ct:=N,bk:=D.nx} σ2 H2):=by
 refine⟨fun i m σ H=>m=xs.length-i/\i<=xs.length/\Pv i σ H,⟨xs.length,by simp,KO _,h0⟩,?_⟩;rintro i m σ H ⟨rfl,hi,p⟩;have q:=hl i σ H hi p;by_cases Md:i<xs.length
 ·refine .inr ⟨⟨xs,xs[i],q,by simp[Md]⟩,Pv (i+1),fun σ' H' p'=>⟨xs.length-(i+1),zo,rfl,Md,p'⟩,fun x H' y=>?_⟩;obtain⟨e,y⟩:=y;subst e;exact hs i x σ _ (y xs q) p
 ·have e:i=xs.length:=by lia
  subst e;exact .inl ⟨⟨xs,q,J2 _⟩,hd σ H p⟩
def gS{lo:Int}{n:Nat}{g:TG}{tb:TS}{D:Ow}(Pv:Nat->St->Hp->Prop)(h0:Pv 0 σ H)
  (hs:∀i σ H,i<n->Pv i σ H->g (.int (lo+i)) σ H fun σ2 H2=>tb {D with nx:=Pv (i+1),ct:=Pv (i+1),bk:=D.nx} σ2 H2) (hd:∀σ H,Pv n σ H->D.nx σ H) :
  ∃W:Nat->Nat->St->Hp->Prop,(∃m,W 0 m σ H)/\∀i m σ H,W i m σ H->
   ((F7 lo n).stop i H/\D.nx σ H)\/((F7 lo n).go i H/\∃N:St->Hp->Prop,(∀σ' H',N σ' H'->∃m',m'<m/\W (i+1) m' σ' H')/\∀x H',(F7 lo n).yld i H x H'->g x σ H' fun σ2 H2=>tb {D with nx:=N,ct:=N,bk:=D.nx} σ2 H2):=by
 refine⟨fun i m σ H=>m=n-i/\i<=n/\Pv i σ H,⟨n,by simp,KO _,h0⟩,?_⟩;rintro i m σ H ⟨rfl,hi,p⟩;by_cases Md:i<n
 ·refine .inr ⟨Md,Pv (i+1),fun σ' H' p'=>⟨n-(i+1),zo,rfl,Md,p'⟩,fun x H' y=>?_⟩;obtain⟨e,y⟩:=y;subst e y;exact hs i σ _ Md p
 ·have e:i=n:=by lia
  subst e;exact .inl ⟨J2 _,hd σ H p⟩
abbrev R2:=V->V->Hp->VK->Prop
def fv(X:Cx)(f:Tr->Tr->Sem Tr)(r:R2):Prop:=
 ∀(pins:List (Ts×Obj))(s:Tu)(σ:St)(H:Hp)(x y:V)(v u:Tr)(Q:VK),NX X pins σ H s->N3 x v->N3 y u->r x y H Q->
  wpAny (model X.prog X.w) X.A (f v u) (EP X pins σ Q) X.xe s
def Iu(X:Cx)(f:Tr->Sem Tr)(r:V->Hp->VK->Prop):Prop:=
 ∀(pins:List (Ts×Obj))(s:Tu)(σ:St)(H:Hp)(x:V)(v:Tr)(Q:VK),NX X pins σ H s->N3 x v->r x H Q->
  wpAny (model X.prog X.w) X.A (f v) (EP X pins σ Q) X.xe s
def dJ(X:Cx)(f:Tr)(r:TQ->Hp->VK->Prop):Prop:=
 ∀(pins:List (Ts×Obj))(s:Tu)(σ:St)(H:Hp)(xs:TQ)(us:List Tr)(Q:VK),NX X pins σ H s->N2 xs us->r xs H Q->
  wpAny (model X.prog X.w) X.A (call f us) (EP X pins σ Q) X.xe s
def HS(r:R2)(ta tb:TE):TE:=fun σ H Q=>ta σ H fun x H1=>tb σ H1 fun y H2=>r x y H2 Q
def JB(r:V->Hp->VK->Prop)(ta:TE):TE:=fun σ H Q=>ta σ H fun x H1=>r x H1 Q
inductive rI(C:Int->Int->Prop)(g:Int->Int->V)(x:V)(y:V)(H:Hp)(Q:VK):Prop
 |mk(i j:_):x=.int i->y=.int j->C i j->Q (g i j) H->rI C g x y H Q
inductive Bo(g:Int->Int->V)(x:V)(y:V)(H:Hp)(Q:VK):Prop
 |mk(i j:_):x=.int i->y=.int j->Q (g i j) H->Bo g x y H Q
inductive rU(g:Int->V)(x:V)(H:Hp)(Q:VK):Prop
 |mk(i:_):x=.int i->Q (g i) H->rU g x H Q
section
variable{X:Cx}{a b c:Expr}{ta tb tc:TE}{pos:Pos}
def D3(ha:PE X a ta)(hb:PE X b tb){R:V->V->Hp->Prop}(I:NX X pins σ H s)
  (h:ta σ H fun x H1=>tb σ H1 fun y H2=>R x y H2) {Q:Tr->Tu->Prop} {f:Tr->Tr->Sem Tr}
  (hf:∀v u s2 x y H2,NX X pins σ H2 s2->N3 x v->N3 y u->R x y H2->wpAny (model X.prog X.w) X.A (f v u) Q X.xe s2) :
  wpAny (model X.prog X.w) X.A (eval a X.env) (fun v s₁=>wpAny (model X.prog X.w) X.A (eval b X.env) (fun u s₂=>wpAny (model X.prog X.w) X.A (f v u) Q X.xe s₂) X.xe s₁) X.xe s:=by
 refine bH (ha pins s σ H _ I h) fun v s1 hZZ=>?_;walk_at "I";refine bH (hb pins s1 σ H1 _ I1 q1) fun u s2 hZZ=>?_;obtain⟨y,H2,I2,r2,q2⟩:=hZZ;exact hf v u s2 x y H2 I2 r1 r2 q2
def aA{op:Operator}{r:R2}(ho:fv X (binaryOp op) r)(ha:PE X a ta)(hb:PE X b tb):PE X (.BinOp a op b pos) (HS r ta tb):=by
 walk_at "p";exact wpAny_BinOp (D3 ha hb I h fun v u s2 x y H2 I2 rx ry q=>ho pins s2 σ H2 x y v u Q I2 rx ry q)
def Gq{op:UnaryOp}{r:V->Hp->VK->Prop}(ho:Iu X (unaryOp op) r)(ha:PE X a ta):PE X (.UnaryOp op a pos) (JB r ta):=by
 walk_at "p";exact UnaryOp_ (bH (ha pins s σ H _ I h) fun v s1⟨x,H1,I1,r1,q1⟩=>ho pins s1 σ H1 x v Q I1 r1 q1)
def F8{f:Tr->Tr->Sem Tr}{C:Int->Int->Prop}{g:Int->Int->Int}
  (rule:∀(i j:Int)(t u:Tok)(s:Tu)(Q:Tr->Tu->Prop)(E:Tr->Tu->Prop),C i j->Q (.int (g i j) s.toks) {s with toks:=s.toks+1}->wpAny (model X.prog X.w) X.A (f (.int i t) (.int j u)) Q E s) :
  fv X f (rI C fun i j=>.int (g i j)):=by
 walk_at "t";obtain⟨i,j,rfl,rfl,hc,q⟩:=h;obtain⟨t,rfl⟩:=rx;obtain⟨t',rfl⟩:=ry;exact rule i j t t' s _ _ hc ⟨.int (g i j),H,I.tok _,⟨_,rfl⟩,q⟩
def Gr{f:Tr->Tr->Sem Tr}{g:Int->Int->Int}
  (rule:∀(i j:Int)(t u:Tok)(s:Tu)(Q:Tr->Tu->Prop)(E:Tr->Tu->Prop),Q (.int (g i j) s.toks) {s with toks:=s.toks+1}->wpAny (model X.prog X.w) X.A (f (.int i t) (.int j u)) Q E s) :
  fv X f (Bo fun i j=>.int (g i j)):=by
 walk_at "t";obtain⟨i,j,rfl,rfl,q⟩:=h;obtain⟨t,rfl⟩:=rx;obtain⟨t',rfl⟩:=ry;exact rule i j t t' s _ _ ⟨.int (g i j),H,I.tok _,⟨_,rfl⟩,q⟩
def Bp{f:Tr->Tr->Sem Tr}{g:Int->Int->Bool}
  (rule:∀(i j:Int)(t u:Tok)(s:Tu)(Q:Tr->Tu->Prop)(E:Tr->Tu->Prop),Q (.bool (g i j)) s->wpAny (model X.prog X.w) X.A (f (.int i t) (.int j u)) Q E s) :
  fv X f (Bo fun i j=>.bl (g i j)):=by
 walk_at "t";obtain⟨i,j,rfl,rfl,q⟩:=h;obtain⟨t,rfl⟩:=rx;obtain⟨t',rfl⟩:=ry;exact rule i j t t' s _ _ ⟨.bl (g i j),H,I,rfl,q⟩
def Iv(i j:Int):Prop:=0<j/\j<1073741824
def Gu(i j:Int):Prop:=0<=j/\j<=1000000/\i.natAbs<2^64
def QW(i j:Int):Prop:=(-(2^64)<i/\i<2^64)\/(-(2^64)<j/\j<2^64)
def QW.ok{i j:Int}(h:QW i j):IntMulOk i j:=by
 rcases h with⟨h1,h2⟩|⟨h1,h2⟩
 ·exact .of_left (intBits_le_64 h1 h2)
 ·exact .of_right (intBits_le_64 h1 h2)
def bV:fv X (binaryOp .Add) (Bo fun i j=>.int (i+j)):=Gr fun _ _ _ _ _ _ _ q=>add_int q
def fY:fv X (binaryOp .Sub) (Bo fun i j=>.int (i-j)):=Gr fun _ _ _ _ _ _ _ q=>sub_int q
def gC:fv X (binaryOp .Mult) (rI QW fun i j=>.int (i*j)):=F8 fun _ _ _ _ _ _ _ hc q=>mul_int q hc.ok
def Bq:fv X (binaryOp .FloorDiv) (rI Iv fun i j=>.int (i / j)):=F8 fun i j _ _ _ _ _ hc q=>by
 have h1:(0:Int)<j:=hc.1;have h2:j<1073741824:=hc.2;exact floordiv_int zo (by rw[RY i zo];exact q) (.inl (PyProof.noPylong_small zo))
def fh:fv X (binaryOp .Mod) (rI (fun _ j=>0<j) fun i j=>.int (i%j)):=F8 fun i j _ _ _ _ _ hc q=>by
 have h1:(0:Int)<j:=hc;exact mod_int' zo (by rw[Int.fmod_eq_emod_of_nonneg i zo];exact q)
def D4:fv X (binaryOp .Pow) (rI Gu fun i j=>.int (i^j.toNat)):=F8 fun _ _ _ _ _ _ _ hc q=>pow_int_small hc.1 hc.2.1 hc.2.2 q
def xW:fv X (binaryOp .LShift) (rI Gu fun i j=>.int (i*2^j.toNat)):=F8 fun _ _ _ _ _ _ _ hc q=>lshift_int_small hc.1 hc.2.1 hc.2.2 q
def JC{f:Tr->Sem Tr}{g:Int->Int}
  (rule:∀(i:Int)(t:Tok)(s:Tu)(Q:Tr->Tu->Prop)(E:Tr->Tu->Prop),Q (.int (g i) s.toks) {s with toks:=s.toks+1}->wpAny (model X.prog X.w) X.A (f (.int i t)) Q E s) :
  Iu X f (rU fun i=>.int (g i)):=by
 intro pins s σ H x v Q I rx h;obtain⟨i,rfl,q⟩:=h;obtain⟨t,rfl⟩:=rx;exact rule i t s _ _ ⟨.int (g i),H,I.tok _,⟨_,rfl⟩,q⟩
def D5:Iu X (unaryOp .USub) (rU fun i=>.int (-i)):=JC fun _ _ _ _ _ q=>neg_int q
end
def xX:V->V->Bool
 |.non,.non=>true|.non,.int _=>true|.int _,.non=>true|.non,.bl _=>true|.bl _,.non=>true|.non,.str _=>true|.str _,.non=>true
 |.int _,.int _=>true|.bl _,.bl _=>true|.str _,.str _=>true|.byt _,.byt _=>true
 |.int _,.str _=>true|.str _,.int _=>true|.bl _,.str _=>true|.str _,.bl _=>true
 |_,_=>false
def Jt:R2:=fun x y H Q=>xX x y=true/\Q (.bl (decide (x=y))) H
def JE:R2:=fun x y H Q=>xX x y=true/\Q (.bl (!decide (x=y))) H
def uM{i j:Int}:decide (V.int i=V.int j)=(i==j):=by
 rw[La];simp
def xY{i j:Bool}:decide (V.bl i=V.bl j)=(i==j):=by
 rw[La];simp
def uN{i j:Str}:decide (V.str i=V.str j)=(i==j):=by
 rw[La];simp
def uO{i j:Array UInt8}:decide (V.byt i=V.byt j)=(i.toList==j.toList):=by
 rw[La];cases i;cases j;simp
section
variable{X:Cx}{a b c:Expr}{ta tb tc:TE}{pos:Pos}
def bA{Q:VK}{k k':Bool}(I:NX X pins σ H s)(q:Q (.bl k) H)(e:k=k'):EP X pins σ Q (.bool k') s:=by
 subst e;exact⟨.bl k,H,I,rfl,q⟩
def aW:fv X (compareOp .Eq) Jt:=by
 walk_at "t";obtain⟨hs,q⟩:=h;cases x with
 |non=>
  cases rx;cases y with
  |non=>cases ry;exact PySem.EqNone.eq_none_none (bA I q (by simp))
  |bl j=>cases ry;exact PySem.EqNone.eq_none_bool (bA I q (by simp))
  |int j=>obtain⟨t',rfl⟩:=ry;exact PySem.EqNone.eq_none_int (bA I q (by simp))
  |str j=>obtain⟨t',rfl⟩:=ry;exact PySem.EqNone.eq_none_str (bA I q (by simp))
  |_=>exact absurd (show false=true from hs) Kh
 |bl i=>
  cases rx;cases y with
  |non=>cases ry;exact PySem.EqNone.eq_bool_none (bA I q (by simp))
  |bl j=>cases ry;exact eq_bool (bA I q xY)
  |str j=>obtain⟨t',rfl⟩:=ry;exact PySem.EqMixed.eq_bool_str (bA I q (by simp))
  |_=>exact absurd (show false=true from hs) Kh
 |int i=>
  obtain⟨t,rfl⟩:=rx;cases y with
  |non=>cases ry;exact PySem.EqNone.eq_int_none (bA I q (by simp))
  |int j=>obtain⟨t',rfl⟩:=ry;exact eq_int (bA I q uM)
  |str j=>obtain⟨t',rfl⟩:=ry;exact PySem.EqMixed.eq_int_str (bA I q (by simp))
  |_=>exact absurd (show false=true from hs) Kh
 |str i=>
  obtain⟨t,rfl⟩:=rx;cases y with
  |non=>cases ry;exact PySem.EqNone.eq_str_none (bA I q (by simp))
  |bl j=>cases ry;exact PySem.EqMixed.eq_str_bool (bA I q (by simp))
  |int j=>obtain⟨t',rfl⟩:=ry;exact PySem.EqMixed.eq_str_int (bA I q (by simp))
  |str j=>obtain⟨t',rfl⟩:=ry;exact eq_str (bA I q uN)
  |_=>exact absurd (show false=true from hs) Kh
 |byt i=>
  obtain⟨t,rfl⟩:=rx;cases y with
  |byt j=>obtain⟨t',rfl⟩:=ry;exact PySem.W.eq_bytes (bA I q uO)
  |_=>exact absurd (show false=true from hs) Kh
 |_=>cases y<;>exact absurd (show false=true from hs) Kh
def qD:fv X (compareOp .NotEq) JE:=by
 walk_at "t";obtain⟨hs,q⟩:=h;cases x with
 |non=>
  cases rx;cases y with
  |non=>cases ry;exact PySem.EqNone.ne_none_none (bA I q (by simp))
  |bl j=>cases ry;exact PySem.EqNone.ne_none_bool (bA I q (by simp))
  |int j=>obtain⟨t',rfl⟩:=ry;exact PySem.EqNone.ne_none_int (bA I q (by simp))
  |str j=>obtain⟨t',rfl⟩:=ry;exact PySem.EqNone.ne_none_str (bA I q (by simp))
  |_=>exact absurd (show false=true from hs) Kh
 |bl i=>
  cases rx;cases y with
  |non=>cases ry;exact PySem.EqNone.ne_bool_none (bA I q (by simp))
  |bl j=>cases ry;exact ne_bool (bA I q (e_ not xY))
  |str j=>obtain⟨t',rfl⟩:=ry;exact PySem.EqMixed.ne_bool_str (bA I q (by simp))
  |_=>exact absurd (show false=true from hs) Kh
 |int i=>
  obtain⟨t,rfl⟩:=rx;cases y with
  |non=>cases ry;exact PySem.EqNone.ne_int_none (bA I q (by simp))
  |int j=>obtain⟨t',rfl⟩:=ry;exact ne_int (bA I q (e_ not uM))
  |str j=>obtain⟨t',rfl⟩:=ry;exact PySem.EqMixed.ne_int_str (bA I q (by simp))
  |_=>exact absurd (show false=true from hs) Kh
 |str i=>
  obtain⟨t,rfl⟩:=rx;cases y with
  |non=>cases ry;exact PySem.EqNone.ne_str_none (bA I q (by simp))
  |bl j=>cases ry;exact PySem.EqMixed.ne_str_bool (bA I q (by simp))
  |int j=>obtain⟨t',rfl⟩:=ry;exact PySem.EqMixed.ne_str_int (bA I q (by simp))
  |str j=>obtain⟨t',rfl⟩:=ry;exact ne_str (bA I q (e_ not uN))
  |_=>exact absurd (show false=true from hs) Kh
 |byt i=>
  obtain⟨t,rfl⟩:=rx;cases y with
  |byt j=>obtain⟨t',rfl⟩:=ry;exact PySem.W.ne_bytes (bA I q (e_ not uO))
  |_=>exact absurd (show false=true from hs) Kh
 |_=>cases y<;>exact absurd (show false=true from hs) Kh
def dY:fv X (compareOp .Lt) (Bo fun i j=>.bl (decide (i<j))):=Bp fun _ _ _ _ _ _ _ q=>lt_int q
def i4:fv X (compareOp .LtE) (Bo fun i j=>.bl (decide (i<=j))):=Bp fun _ _ _ _ _ _ _ q=>le_int q
def nC:fv X (compareOp .Gt) (Bo fun i j=>.bl (decide (j<i))):=Bp fun _ _ _ _ _ _ _ q=>gt_int q
def Gv:fv X (compareOp .GtE) (Bo fun i j=>.bl (decide (j<=i))):=Bp fun _ _ _ _ _ _ _ q=>ge_int q
def fA:fv X (compareOp .In) (fun x y H Q=>∃i j,x=.str i/\y=.str j/\Q (.bl (!(Builtin.Str.occurrences j i 0 j.length 1).isEmpty)) H):=by
 walk_at "t";obtain⟨i,j,rfl,rfl,q⟩:=h;obtain⟨t,rfl⟩:=rx;obtain⟨t',rfl⟩:=ry;exact in_str (bA I q rfl)
def oJ:fv X (compareOp .NotIn) (fun x y H Q=>∃i j,x=.str i/\y=.str j/\Q (.bl (!(!(Builtin.Str.occurrences j i 0 j.length 1).isEmpty))) H):=by
 walk_at "t";obtain⟨i,j,rfl,rfl,q⟩:=h;obtain⟨t,rfl⟩:=rx;obtain⟨t',rfl⟩:=ry;exact notIn_str (bA I q rfl)
variable{op:CmpOp}
def sF(b:Expr)(h:op≠.In:=by decide)(h2:op≠.NotIn:=by decide):behindInMarks op b=false:=by
 have e1:(op==CmpOp.In)=false:=by cases op<;>first|rfl|exact absurd rfl h
 have e2:(op==CmpOp.NotIn)=false:=by cases op<;>first|rfl|exact absurd rfl h2
 cases b<;>simp[behindInMarks,e1,e2]
def cq{r:R2}(ho:fv X (compareOp op) r)(ha:PE X a ta)(hb:PE X b tb)(hm:behindInMarks op b=false:=by first|exact sF _|rfl):PE X (.Compare a [op] [b] pos) (HS r ta tb):=by
 walk_at "p";exact wpAny_Compare1 (D3 ha hb I h fun v u s2 x y H2 I2 rx ry q=>ho pins s2 σ H2 x y v u Q I2 rx ry q) hm
inductive xZ(Q:Bool->Hp->Prop)(x:V)(H':Hp):Prop
 |mk(k:_):x=.bl k->Q k H'->xZ Q x H'
def Dh(t:TE):TT:=fun σ H Q=>t σ H fun x H'=>xZ Q x H'
def ap{r:R2}(ho:fv X (compareOp op) r)(ha:PE X a ta)(hb:PE X b tb)(hm:behindInMarks op b=false:=by first|exact sF _|rfl):PT X (.Compare a [op] [b] pos) (Dh (HS r ta tb)):=by
 walk_at "p";refine wpAny_isTrue_Compare1 (bH (ha pins s σ H _ I h) fun v s1⟨x,H1,I1,r1,q1⟩=>bH (hb pins s1 σ H1 _ I1 q1) fun u s2⟨y,H2,I2,r2,q2⟩=>
  bH (ho pins s2 σ H2 x y v u _ I2 r1 r2 q2) fun c s3⟨z,H3,I3,r3,k,e,q3⟩=>?_) hm
 subst e;cases r3;exact o_ ⟨H3,I3,q3⟩
inductive uP(r':R2)(tc:TE)(σ:St)(Q:VK)(y:V)(z:V)(H3:Hp):Prop
 |mk(k:_):z=.bl k->(if k=true then tc σ H3 fun w' H4=>r' y w' H4 Q else Q (.bl false) H3)->uP r' tc σ Q y z H3
def x6(r r':R2)(ta tb tc:TE):TE:=fun σ H Q=>ta σ H fun x H1=>tb σ H1 fun y H2=>r x y H2 fun z H3=>uP r' tc σ Q y z H3
def lD{op Xk:CmpOp}{r r':R2}(ho:fv X (compareOp op) r)(U4:fv X (compareOp Xk) r')(ha:PE X a ta)(hb:PE X b tb)(hc:PE X c tc)
  (hm:lastMarks [op,Xk] [b,c]=false:=by with_unfolding_all rfl):PE X (.Compare a [op,Xk] [b,c] pos) (x6 r r' ta tb tc):=by
 walk_at "p";refine Compare_chain (bH (ha pins s σ H _ I h) fun v s1⟨x,H1,I1,r1,q1⟩=>chain_link (bH (hb pins s1 σ H1 _ I1 q1) fun u s2⟨y,H2,I2,r2,q2⟩=>
  bH (ho pins s2 σ H2 x y v u _ I2 r1 r2 q2) fun d s3⟨z,H3,I3,r3,k,e,q3⟩=>?_)) hm
 subst e;cases r3;refine o_ ?_;cases k with
 |false=>exact ite_ff ⟨.bl false,H3,I3,rfl,q3⟩
 |true=>exact ite_tt (chain_last (bH (hc pins s3 σ H3 _ I3 q3) fun w' s4⟨z',H4,I4,r4,q4⟩=>U4 pins s4 σ H4 y z' u w' Q I4 r2 r4 q4))
def qE{op Xk:CmpOp}{r r':R2}(ho:fv X (compareOp op) r)(U4:fv X (compareOp Xk) r')(ha:PE X a ta)(hb:PE X b tb)(hc:PE X c tc)
  (hm:lastMarks [op,Xk] [b,c]=false:=by with_unfolding_all rfl):PT X (.Compare a [op,Xk] [b,c] pos) (Dh (x6 r r' ta tb tc)):=by
 walk_at "p";refine isTrue_chain (bH (ha pins s σ H _ I h) fun v s1⟨x,H1,I1,r1,q1⟩=>test_link (bH (hb pins s1 σ H1 _ I1 q1) fun u s2⟨y,H2,I2,r2,q2⟩=>
  bH (ho pins s2 σ H2 x y v u _ I2 r1 r2 q2) fun d s3⟨z,H3,I3,r3,k,e,q3⟩=>?_)) hm
 subst e;cases r3;refine o_ ?_;cases k with
 |false=>
  obtain⟨k',e',q'⟩:=q3;cases e';exact ite_ff ⟨H3,I3,q'⟩
 |true=>
  refine ite_tt (test_last (bH (hc pins s3 σ H3 _ I3 q3) fun w' s4⟨z',H4,I4,r4,q4⟩=>bH (U4 pins s4 σ H4 y z' u w' _ I4 r2 r4 q4) fun d' s5 hZZ=>?_));obtain⟨z2,H5,I5,r5,k2,e2,q5⟩:=hZZ;subst e2;cases r5;exact o_ ⟨H5,I5,q5⟩
def jD:(sizeLine:Nat)<2^63:=by rw[Rf];decide
def aH:fv X (binaryOp .Add) (fun x y H Q=>∃i j,x=.str i/\y=.str j/\i.length+j.length<=sizeLine/\Q (.str (i++j)) H):=by
 walk_at "t";obtain⟨i,j,rfl,rfl,hz,q⟩:=h;obtain⟨t,rfl⟩:=rx;obtain⟨t',rfl⟩:=ry;exact add_str (fun t' tk=>⟨.str (i++j),H,I.tok _,⟨_,rfl⟩,q⟩) hz
def i5(r:N2 [x] us):∃u,us=[u]/\N3 x u:=by
 cases r with
 |cons r1 r2=>cases r2;exact⟨_,rfl,r1⟩
def qF(r:N2 [x,y] us):∃u w',us=[u,w']/\N3 x u/\N3 y w':=by
 cases r with
 |cons r1 r2=>
  cases r2 with
  |cons r3 r4=>cases r4;exact⟨_,_,rfl,r1,r3⟩
def nE(hc:X.calm=true):dJ X (.builtin "max") (fun xs H Q=>∃i j,xs=[.int i,.int j]/\Q (.int (if j>i then j else i)) H):=by
 walk_at "J";obtain⟨i,j,rfl,q⟩:=h;obtain⟨u,w',rfl,⟨t,rfl⟩,⟨t',rfl⟩⟩:=qF r;refine max_two_ints (I.ok.hd hc) fun h' tk k=>⟨_,H,I.kept k,?_,q⟩;by_cases hj:j>i
 ·rw[g_ hj,g_ hj];exact⟨_,rfl⟩
 ·rw[f_ hj,f_ hj];exact⟨_,rfl⟩
def nF(hc:X.calm=true):dJ X (.builtin "min") (fun xs H Q=>∃i j,xs=[.int i,.int j]/\Q (.int (if j<i then j else i)) H):=by
 walk_at "J";obtain⟨i,j,rfl,q⟩:=h;obtain⟨u,w',rfl,⟨t,rfl⟩,⟨t',rfl⟩⟩:=qF r;refine min_two_ints (I.ok.hd hc) fun h' tk k=>⟨_,H,I.kept k,?_,q⟩;by_cases hj:j<i
 ·rw[g_ hj,g_ hj];exact⟨_,rfl⟩
 ·rw[f_ hj,f_ hj];exact⟨_,rfl⟩
def fB:dJ X (.type "int") (fun xs H Q=>(∃i,xs=[.int i]/\Q (.int i) H)\/∃k,xs=[.bl k]/\Q (.int (if k then 1 else 0)) H):=by
 walk_at "J";rcases h with⟨i,rfl,q⟩|⟨k,rfl,q⟩
 ·obtain⟨u,rfl,t,rfl⟩:=i5 r;exact call_int_int ⟨.int i,H,I,⟨_,rfl⟩,q⟩
 ·obtain⟨u,rfl,r1⟩:=i5 r;cases r1;exact call_int_bool ⟨.int (if k then 1 else 0),H,I.tok _,⟨_,rfl⟩,q⟩
def ej:dJ X (.type "str") (fun xs H Q=>∃i,xs=[.int i]/\i.natAbs.log2<1920/\Q (.str (toString i)) H):=by
 walk_at "J";obtain⟨i,rfl,hz,q⟩:=h;obtain⟨u,rfl,t,rfl⟩:=i5 r;exact PySem.P.str_of_int hz ⟨.str _,H,I.tok _,⟨_,rfl⟩,q⟩
end
structure PY(h:Heap)(x dx C:Ts)(mA:Str->Option Tr):Prop where
 obj:h.get? x=some (PySem.W.instObj C dx)
 ns:h.Ns1 dx mA
 ne:dx≠x
variable{mA:Str->Option Tr}{dx:Ts}
def gT(n:h.Ns1 dx mA):∃od,h.get? dx=some od/\∀name,PySem.W.lookIn name od=some (mA name):=by
 obtain⟨o,es,ep,ho,hd,hk,_,hm⟩:=n;refine⟨o,ho,fun name=>?_⟩;have e:=hm name;unfold nsFind findBy at e;rw[<-Array.find?_toList]at e;unfold PySem.W.lookIn;rw[hd];dsimp only;split
 ·rename_i y q;rw[q]at e;exact e_ some e
 ·rename_i q;rw[q]at e;have a:es.toList.any (·.refKey)=false:=by
   rw[List.any_eq_false];intro y hy;obtain⟨z,t,hkey⟩:=hk y (Array.mem_toList_iff.mp hy);simp[DictEntry.refKey,hkey]
  have a':¬es.toList.any (·.refKey)=true:=by rw[a];exact Kh
  rw[f_ a'];exact e_ some e
def PY.look{x dx C:Ts}(I:PY h x dx C mA):∃od,PySem.W.InstAt h x (PySem.W.instObj C dx) C (some od)/\∀name,PySem.W.lookIn name od=some (mA name):=
 let⟨od,ho,hl⟩:=gT I.ns
 ⟨od,⟨I.obj,rfl,rfl,ho⟩,hl⟩
section
variable{prog:Tv}{w:Tw}{A:Tz}{E:Tr->Tu->Prop}{s:Tu}{K:ZF}{x dx C f:Ts}{mA:Str->Option Tr}{name:Str}{v:Tr}
def Br{expr:Bool}{Q:Tr->Tu->Prop}(X:K.In s.heap)(I:PY s.heap x dx C mA)(hg:PySem.W.plainGet K C name=true)(hh:PySem.W.hasDictIn K C=true)
  (ha:PySem.W.findIn K (.ref C) name=some none) (hv:mA name=some v) (hv':PySem.W.handedIn v=true) (h:Q v {s with toks:=s.toks+1}) :
  wpAny (model prog w) A (getAttr (.ref x) name expr) Q E s:=by
 obtain⟨od,J,hl⟩:=I.look;exact PySem.W.get_value X J (Rx hg).1 (PySem.W.findObj_own hh ha rfl (by rw[hl,hv])) hv' h
def x9{pl:Sem Bool}{Q:Tr×List Tr->Tu->Prop}(X:K.In s.heap)(I:PY s.heap x dx C mA)(hg:PySem.W.plainGet K C name=true)
  (hf:PySem.W.findIn K (.ref C) name=some (some (.ref f))) (ht:PySem.W.isFn K (.ref f)=true) (hv:mA name=none) (h:Q (.ref f,[.ref x]) s) :
  wpAny (model prog w) A (getMethod (.ref x) name pl) Q E s:=by
 obtain⟨od,J,hl⟩:=I.look;exact PySem.W.method_fn X J (Rx hg).1 (Rx hg).2 hf (beq_iff_eq.mp ht) (by show(PySem.W.lookIn name od).map (·.isSome)=some false;rw[hl,hv];rfl) h
def Bs{ns:TH}{Q:Unit->Tu->Prop}(X:K.In s.heap)(I:PY s.heap x dx C mA)
  (hs:PySem.W.findIn K (.ref C) "__setattr__"=some (some (.builtin "object.__setattr__"))) (hp:PySem.W.plainOver K C=true) (ht:PySem.W.takerIn K C name=some none) (hh:PySem.W.hasDictIn K C=true)
  (hw:PySem.Within mA ns) (hsz:ns.length<=sizeLine)
  (h:∀h',PY h' x dx C (fun y=>if y=name then some v else mA y)->Heap.SameBut dx s.heap h'->Q () {s with heap:=h',toks:=s.toks+2}) :
  wpAny (model prog w) A (setAttr (.ref x) name v) Q E s:=by
 obtain⟨od,J,hl⟩:=I.look;refine PySem.W.set_plain X J hs (PySem.W.osa_open (s:={s with toks:=s.toks+1}) (r:=none) X J hp ht fun b=>?_);obtain⟨cd,hc,Us⟩:=PySem.W.any_some hh;have hx:s.heap.get? x=some ⟨.ref C,some dx,.plain,#[]⟩:=I.obj;refine a_ (c_ (a_ (a_ (Rj hx (a_ (PySem.W.Looks.here (s:={s with toks:=s.toks+1}) (PySem.W.looks_clsIn X hc) ?_))))));rw[Us];refine c_ (a:=some dx) (a_ (c_ (a_ ?_)));refine wpAny_nsSet1 (s:={s with toks:=s.toks+1}) I.ns fun h' hn2 Xq=>?_;obtain⟨oD,esD,epD,Y0,Zf,U_⟩:=hn2.count (PySem.Within.cons name v hw);refine a_ (wpAny_lookBehind Y0 (by rw[Zf];exact pastItsLine_dict (Kx U_ (by rw[JX];lia))) ?_);exact c_ (h _ ⟨(Xq.2 _ (K_ I.ne)).trans I.obj,hn2,I.ne⟩ Xq)
def ya{R:Result->Tu->Prop}{vs:List Tr}{kw:List (Str×Tr)}(X:K.In s.heap)(hm:PySem.W.makesIn K C=true)
  (hi:PySem.W.findIn K (.ref C) "__init__"=some (some (.ref f))) (hf:PySem.W.typeIn K (.ref f)=some (.type "function"))
  (h:codeAny (model prog w) (A.under (.builtin "type.__call__" ⟨.ref C::vs,kw⟩)) (.call (.ref f) ⟨.ref (s.heap.objs.size+1)::vs,kw⟩) (PySem.W.InitBack (s.heap.objs.size+1) R)
   {s with heap:=(s.heap.push PySem.W.emptyDict).push (PySem.W.instObj C s.heap.objs.size)}) :
  codeAny (model prog w) A (.call (.ref C) ⟨vs,kw⟩) R s:=by
 obtain⟨hh,g,d,t,os⟩:=s;exact PySem.W.make_core (PySem.W.makes_of X hm) (Rp X hi) (fun self=>PySem.W.bind_fn X self hf) (.inl rfl) h
end
def aL(f:Str)(v:V):List (Str×V)->List (Str×V)
 |[]=>[(f,v)]
 |(g,x)::r=>if g=f then(g,v)::r else(g,x)::aL f v r
def gD(f g:Str)(v:V):∀fs:List (Str×V),(aL f v fs).lookup g=if g=f then some v else fs.lookup g
 |[]=>by
  show List.lookup g [(f,v)]=_;by_cases h:g=f
  ·have hb:(g==f)=true:=beq_iff_eq.mpr h;simp only[List.lookup,hb,g_ h]
  ·have hb:(g==f)=false:=beq_eq_false_iff_ne.mpr h;simp only[List.lookup,hb,f_ h]
 |(k,x)::r=>by
  have ih:=gD f g v r;rw[show aL f v ((k,x)::r)=(if k=f then(k,v)::r else(k,x)::aL f v r)from rfl];by_cases hk:k=f
  ·rw[g_ hk];by_cases h:g=k
   ·have hb:(g==k)=true:=beq_iff_eq.mpr h;simp only[List.lookup,hb,g_ (h.trans hk)]
   ·have hb:(g==k)=false:=beq_eq_false_iff_ne.mpr h;simp only[List.lookup,hb,f_ (fun e:g=f=>h (e.trans hk.symm))]
  ·rw[f_ hk];by_cases h:g=k
   ·have hb:(g==k)=true:=beq_iff_eq.mpr h;simp only[List.lookup,hb,f_ (fun e:g=f=>hk (h.symm.trans e))]
   ·have hb:(g==k)=false:=beq_eq_false_iff_ne.mpr h;simp only[List.lookup,hb];exact ih
def fC(f:Str)(v:V):∀fs:List (Str×V),f∈(aL f v fs).map (·.1)/\∀g,g∈fs.map (·.1)->g∈(aL f v fs).map (·.1)
 |[]=>⟨by simp[aL],fun g h=>by simp at h⟩
 |(k,x)::r=>by
  obtain⟨i1,i2⟩:=fC f v r;rw[show aL f v ((k,x)::r)=(if k=f then(k,v)::r else(k,x)::aL f v r)from rfl];by_cases hk:k=f
  ·rw[g_ hk];subst hk;exact⟨by simp,fun g h=>by simpa using h⟩
  ·rw[f_ hk];refine⟨?_,fun g h=>?_⟩
   ·rw[Kd];exact JZ _ i1
   ·rw[Kd]at h⊢;rcases J0.mp h with e|e
    ·exact J0.mpr (.inl e)
    ·exact JZ _ (i2 g e)
def gE(f:Str)(v:V):∀fs:List (Str×V),(aL f v fs).length<=fs.length+1
 |[]=>by simp[aL]
 |(k,x)::r=>by
  have ih:=gE f v r;rw[show aL f v ((k,x)::r)=(if k=f then(k,v)::r else(k,x)::aL f v r)from rfl];by_cases hk:k=f
  ·rw[g_ hk,JX,JX];lia
  ·rw[f_ hk,JX,JX];lia
variable{v:V}
def Ox.some_of{o:Option Tr}(r:Ox (some v) o):∃u,o=some u/\N3 v u:=by
 cases o with
 |none=>exact(show False from r).elim
 |some u=>exact⟨u,rfl,r⟩
def Ox.none_of{o:Option Tr}(r:Ox none o):o=none:=by
 cases o with
 |none=>rfl
 |some u=>exact(show False from r).elim
def nG(r:N3 v u):PySem.W.handedIn u=true:=by
 cases v with
 |non=>cases(show u=Value.none from r);rfl
 |bl b=>cases(show u=Value.bool b from r);rfl
 |int i=>obtain⟨t,e⟩:=(show ∃t,u=Value.int i t from r);cases e;rfl
 |str x=>obtain⟨t,e⟩:=(show ∃t,u=Value.str x t from r);cases e;rfl
 |byt b=>obtain⟨t,e⟩:=(show ∃t,u=Value.bytes b t from r);cases e;rfl
 |flt b=>obtain⟨t,e⟩:=(show ∃t,u=Value.float b t from r);cases e;rfl
 |ref a=>cases(show u=Value.ref a from r);rfl
 |ty n=>cases(show u=Value.type n from r);rfl
section
variable{P:Tv}{w:Tw}{H H':Hp}{h h':Heap}{a C dx:Ts}{fs W6:List (Str×V)}
def ku(hok:Oo P w H h)(e:H a=some (.ins C dx fs)):∃mA,PY h a dx C mA/\(∀f,Ox (fs.lookup f) (mA f))/\PySem.Within mA (fs.map (·.1))/\fs.length<=1000/\H dx=some (.own a):=by
 obtain⟨d,z,ne,ob,mA,n,r,q⟩:=(show N7 P w H h a (.ins C dx fs)from hok a _ e);exact⟨mA,⟨ob,n,ne⟩,r,q,z,d⟩
end
structure PP(K:ZF)(C:Ts):Prop where
 pg:PySem.W.plainGet K C Str.empty=true
 hd:PySem.W.hasDictIn K C=true
 po:PySem.W.plainOver K C=true
 sa:PySem.W.findIn K (.ref C) "__setattr__"=some (some (.builtin "object.__setattr__"))
variable{C:Ts}
def PP.get(c:PP K C)(f:Str):PySem.W.plainGet K C f=true:=c.pg
def Oe(K:ZF)(C:Ts)(f:Str):Prop:=PySem.W.findIn K (.ref C) f=some none
variable{f:Str}
def Oe.taker(n:Oe K C f):PySem.W.takerIn K C f=some none:=by
 unfold PySem.W.takerIn;rw[show PySem.W.findIn K (.ref C) f=some none from n];rfl
structure qG(K:ZF)(C:Ts)(m:Str)(f:Ts):Prop where
 at_:PySem.W.findIn K (.ref C) m=some (some (.ref f))
 fn:PySem.W.isFn K (.ref f)=true
 kp:PySem.W.keepIn K (.ref f)=true
section
variable{X:Cx}{pins:List (Ts×Obj)}{σ:St}{H:Hp}{s:Tu}{a C dx:Ts}{fs:List (Str×V)}{f:Str}{v:V}{A:Tz}{E:Tr->Tu->Prop}
def lE{b:Bool}{Q:Tr->Tu->Prop}(I:NX X pins σ H s)(e:H a=some (.ins C dx fs))(c:PP X.K C)(n:Oe X.K C f)(l:fs.lookup f=some v)
  (h:∀u s',NX X pins σ H s'->N3 v u->Q u s'):wpAny (model X.prog X.w) A (getAttr (.ref a) f b) Q E s:=by
 obtain⟨mA,O,r,_,_,_⟩:=ku I.hok e;obtain⟨u,hu,ru⟩:=Ox.some_of (v:=v) (o:=mA f) (by rw[<-l];exact r f);exact Br I.kIn O (c.get f) c.hd n hu (nG ru) (h u _ (I.tok _) ru)
def fZ{m:Str}{g:Ts}{pl:Sem Bool}{Q:Tr×List Tr->Tu->Prop}(I:NX X pins σ H s)(e:H a=some (.ins C dx fs))(c:PP X.K C)(k:qG X.K C m g)(l:fs.lookup m=none)
  (h:Q (.ref g,[.ref a]) s):wpAny (model X.prog X.w) A (getMethod (.ref a) m pl) Q E s:=by
 obtain⟨mA,O,r,_,_,_⟩:=ku I.hok e;have hn:mA m=none:=Ox.none_of (by rw[<-l];exact r m);exact x9 I.kIn O (c.get m) k.at_ k.fn hn h
def lF{Q:Unit->Tu->Prop}(I:NX X pins σ H s)(e:H a=some (.ins C dx fs))(c:PP X.K C)(n:Oe X.K C f)(hl:fs.length<1000)(ry:N3 y u)
  (h:∀s',NX X pins σ (aI H a (.ins C dx (aL f y fs))) s'->Q () s'):wpAny (model X.prog X.w) A (setAttr (.ref a) f u) Q E s:=by
 obtain⟨mA,O,r,wi,_,ho⟩:=ku I.hok e;have hz:(fs.map (·.1)).length<=sizeLine:=by rw[JY,Rf];lia
 refine Bs I.kIn O c.sa c.po n.taker c.hd wi hz fun h' O' sb=>h _ ?_;have hd:∃o,h'.get? dx=some o:=let⟨o,_,_,e',_⟩:=O'.ns;⟨o,e'⟩;refine I.write (x:=a) (e:=dx) (by rw[e];exact True.intro) (.inr ho) (fun b q hb z=>(sb.2 b hb).trans z) hd ?_;refine⟨by rw[am O.ne];exact ho,?_,O.ne,O'.obj,_,O'.ns,fun g=>?_,fun g hg=>?_⟩
 ·have:=gE f y fs;lia
 ·show Ox ((aL f y fs).lookup g) (if g=f then some u else mA g);rw[gD];by_cases q:g=f
  ·rw[g_ q,g_ q];exact ry
  ·rw[f_ q,f_ q];exact r g
 ·by_cases q:g=f
  ·rw[q];exact(fC f y fs).1
  ·refine(fC f y fs).2 g (wi g fun z=>hg ?_);show(if g=f then some u else mA g)=none;rw[f_ q];exact z
def NX.made(I:NX X pins σ H s):NX X pins σ (aI (aI H s.heap.objs.size (.own (s.heap.objs.size+1))) (s.heap.objs.size+1) (.ins C s.heap.objs.size []))
  {s with heap:=(s.heap.push PySem.W.emptyDict).push (PySem.W.instObj C s.heap.objs.size)}:=by
 have e1:(s.heap.push PySem.W.emptyDict).get? s.heap.objs.size=some PySem.W.emptyDict:=Ki s.heap rfl;have e2:((s.heap.push PySem.W.emptyDict).push (PySem.W.instObj C s.heap.objs.size)).get? (s.heap.objs.size+1)=some (PySem.W.instObj C s.heap.objs.size):=by
  have:=Ki (s.heap.push PySem.W.emptyDict) (o:=PySem.W.instObj C s.heap.objs.size) rfl
  rwa [Lg]at this
 have e3:(s.heap.push PySem.W.emptyDict).Ns s.heap.objs.size (fun _=>none):=⟨PySem.W.emptyDict,#[],_,e1,rfl,(fun e he=>absurd he (by simp)),fun _=>rfl⟩;have I1:=I.laid (a:=s.heap.objs.size) (o:=.own (s.heap.objs.size+1)) (h':=s.heap.push PySem.W.emptyDict) (t':=s.toks) (fun b u q=>JQ _ q) (J2 _) ⟨_,e1⟩;refine I1.laid (a:=s.heap.objs.size+1) (o:=.ins C s.heap.objs.size []) (t':=s.toks) (fun b u q=>JQ _ q) (Nat.le_of_eq (Lg _ _)) ?_;have ne:s.heap.objs.size≠s.heap.objs.size+1:=Kq (Lv _);refine⟨by rw[am ne,ae],KO _,ne,e2,fun _=>none,(Heap.Ns1.of_empty e3).at fun o q=>JQ _ q,fun _=>True.intro,fun y hy=>absurd rfl hy⟩
def uQ{prog:Tv}{w:Tw}{env:Env}{pos:Pos}{s:Tu}{Q:Tr->Tu->Prop}(hb:attributeBase e f env (eval e env)=eval e env)
  (h:wpAny (model prog w) A (eval e env) (fun o s₁=>wpAny (model prog w) A (getAttr o f true) Q E s₁) E s):wpAny (model prog w) A (eval (.Attribute e f pos) env) Q E s:=
 Attribute_any_ h (by rw[arm_eval_Attribute,hb])
end
inductive Di(K:ZF)(f:Str)(Q:VK)(x:V)(H1:Hp):Prop
 |mk(a C dx fs v:_):x=.ref a->H1 a=some (.ins C dx fs)->PP K C->Oe K C f->fs.lookup f=some v->Q v H1->Di K f Q x H1
def Iw(K:ZF)(ta:TE)(f:Str):TE:=fun σ H Q=>ta σ H fun x H1=>Di K f Q x H1
inductive Dj(K:ZF)(f:Str)(D:Ow)(σ:St)(y:V)(x:V)(H2:Hp):Prop
 |mk(a C dx fs:_):x=.ref a->H2 a=some (.ins C dx fs)->PP K C->Oe K C f->fs.length<1000->D.nx σ (aI H2 a (.ins C dx (aL f y fs)))->Dj K f D σ y x H2
def Ix(K:ZF)(ta tv:TE)(f:Str):TS:=fun D σ H=>tv σ H fun y H1=>ta σ H1 fun x H2=>Dj K f D σ y x H2
def Gw(X:Cx)(op:Operator)(rd:V->V->Hp->VK->Prop):Prop:=
 ∀(pins:List (Ts×Obj))(s:Tu)(σ:St)(H:Hp)(x y:V)(u v:Tr)(Q:VK),NX X pins σ H s->N3 x u->N3 y v->rd x y H Q->wpAny (model X.prog X.w) X.A (inplaceOp op u v) (EP X pins σ Q) X.xe s
inductive qH(K:ZF)(tv:TE)(rd:V->V->Hp->VK->Prop)(f:Str)(D:Ow)(σ:St)(x:V)(H1:Hp):Prop
 |mk(a C dx fs v:_):x=.ref a->H1 a=some (.ins C dx fs)->PP K C->Oe K C f->fs.lookup f=some v->(tv σ H1 fun y H2=>rd v y H2 fun z H3=>∃Zn W6,H3 a=some (.ins C Zn W6)/\W6.length<1000/\D.nx σ (aI H3 a (.ins C Zn (aL f z W6))))->qH K tv rd f D σ x H1
def Bu(K:ZF)(ta tv:TE)(rd:V->V->Hp->VK->Prop)(f:Str):TS:=fun D σ H=>ta σ H fun x H1=>qH K tv rd f D σ x H1
section
variable{X:Cx}{o e value:Expr}{f:Str}{pos P' tpos:Pos}{ta tv:TE}
def bS(he:PE X e ta)(hb:attributeBase e f X.env (eval e X.env)=eval e X.env):PE X (.Attribute e f pos) (Iw X.K ta f):=by
 walk_at "p";refine uQ hb (bH (he pins s σ H _ I h) fun u s1 hZZ=>?_);obtain⟨x,H1,I1,rx,a,C,dx,fs,v,ex,ea,c,n,l,q⟩:=hZZ;subst ex;obtain rfl:u=Value.ref a:=rx;exact lE I1 ea c n l fun u' s2 I2 ru=>⟨v,H1,I2,ru,q⟩
def eL(ha:PE X o ta)(hv:PE X value tv)(hs:swapsWith value (some (.Attribute o f P')) pos.line X.env=pure false):PS X (.Assign [.Attribute o f P'] value pos) (Ix X.K ta tv f):=by
 walk_at "u";refine R1 (bH (hv pins s σ H _ I h) fun u s1⟨y,H1,I1,ry,q⟩=>bH (ha pins s1 σ H1 _ I1 q) fun ov s2 hZZ=>?_) hs;obtain⟨x,H2,I2,rx,a,C,dx,fs,ex,ea,c,n,l,q2⟩:=hZZ;subst ex;obtain rfl:ov=Value.ref a:=rx;exact lF I2 ea c n l ry fun s3 I3=>⟨σ,_,I3,q2⟩
def nI{op:Operator}{rd:V->V->Hp->VK->Prop}(ha:PE X o ta)(hv:PE X value tv)(hop:Gw X op rd):PS X (.AugAssign (.Attribute o f tpos) op value pos) (Bu X.K ta tv rd f):=by
 walk_at "u";refine wpAny_AugAssign_AttributeAny (bH (ha pins s σ H _ I h) fun ov s1 hZZ=>?_);obtain⟨x,H1,I1,rx,a,C,dx,fs,v,ex,ea,c,n,l,q⟩:=hZZ;subst ex;obtain rfl:ov=Value.ref a:=rx;refine lE I1 ea c n l fun u s2 I2 ru=>bH (hv pins s2 σ H1 _ I2 q) fun w3 s3⟨y,H2,I3,ry,q3⟩=>bH (hop pins s3 σ H2 v y u w3 _ I3 ru ry q3) fun w4 s4 hZZ=>?_;obtain⟨z,H3,I4,rz,Zn,W6,ea',l',q4⟩:=hZZ;exact lF I4 ea' c n l' rz fun s5 I5=>⟨σ,_,I5,q4⟩
inductive Gx(x:V)(y:V)(H:Hp)(Q:VK):Prop
 |mk(i j:_):x=.int i->y=.int j->Q (.int (i+j)) H->Gx x y H Q
def yb:Gw X .Add Gx:=by
 rintro pins s σ H x y u v Q I rx ry ⟨i,j,rfl,rfl,q⟩;obtain⟨t,rfl⟩:=(show ∃t,u=Value.int i t from rx);obtain⟨t',rfl⟩:=(show ∃t',v=Value.int j t' from ry);exact PyProof.Rows.iadd_int ⟨.int (i+j),H,I.tok _,⟨_,rfl⟩,q⟩
end
section
variable{X:Cx}{pins:List (Ts×Obj)}{σ:St}{H:Hp}{s:Tu}{A:Tz}{E:Tr->Tu->Prop}{Q:Tr->Tu->Prop}{c:Tr}{b:Bool}
inductive i6(K:ZF)(H:Hp):V->Tr->Prop where
 |non:i6 K H .non (.type "NoneType")
 |bl (x:Bool):i6 K H (.bl x) (.type "bool")
 |int (i:Int):i6 K H (.int i) (.type "int")
 |str (x:Str):i6 K H (.str x) (.type "str")
 |flt (x:UInt64):i6 K H (.flt x) (.type "float")
 |lst {a:Ts} {xs:TQ} (e:H a=some (.lst xs)):i6 K H (.ref a) (.type "list")
 |frz {a:Ts} {o:Obj} {xs:TQ} (e:H a=some (.frz o (.lst xs))):i6 K H (.ref a) (.type "list")
 |tup {a:Ts} {xs:TQ} (e:H a=some (.tup xs)):i6 K H (.ref a) (.type "tuple")
 |dK {a:Ts} {kvs:List (dv×V)} (e:H a=some (.dK kvs)):i6 K H (.ref a) (.type "dict")
 |dT {a:Ts} {kvs:List (List dv×V)} (e:H a=some (.dT kvs)):i6 K H (.ref a) (.type "dict")
 |ins {a C dx:Ts} {fs:List (Str×V)} (e:H a=some (.ins C dx fs)) (cl:PP K C) (ha:PySem.W.findIn K (.ref C) "__class__"=some (some (.builtin "object.__class__")))
   (hn:PySem.W.specialIn K (.builtin "object.__class__") "__get__"=some (some (.builtin "getset_descriptor.__get__"))) (Yg:PySem.W.takesIn K (.builtin "object.__class__")=some true)
   (hm:PySem.W.mroIn K C (.type "object")=some true):i6 K H (.ref a) (.ref C)
def wz{u t:Tr}(I:NX X pins σ H s)(rx:N3 x u)(ty:i6 X.K H x t)(e:PySem.W.kitOne X.K t c=some b)(h:∀tk,Q (.bool b) {s with toks:=tk}):
  wpAny (model X.prog X.w) A (call (.builtin "isinstance") [u,c]) Q E s:=by
 cases ty with
 |non=>cases(show u=Value.none from rx);exact K0 PySem.W.kitx_none I.kIn True.intro e (fun z=>nomatch z) h
 |bl y=>cases(show u=Value.bool y from rx);exact K0 PySem.W.kitx_bool I.kIn True.intro e (fun z=>nomatch z) h
 |int i=>obtain⟨t,q⟩:=(show ∃t,u=Value.int i t from rx);cases q;exact K0 PySem.W.kitx_int I.kIn True.intro e (fun z=>nomatch z) h
 |str y=>obtain⟨t,q⟩:=(show ∃t,u=Value.str y t from rx);cases q;exact K0 PySem.W.kitx_str I.kIn True.intro e (fun z=>nomatch z) h
 |flt y=>obtain⟨t,q⟩:=(show ∃t,u=Value.float y t from rx);cases q;exact K0 PySem.W.kitx_float I.kIn True.intro e (fun z=>nomatch z) h
 |@lst a xs ea=>
  cases(show u=Value.ref a from rx);obtain⟨_,_,n,_,h1⟩:=(show N7 X.prog X.w H s.heap a (.lst xs)from I.hok a _ ea);exact K0 PySem.W.kitx_list I.kIn ⟨_,h1,rfl⟩ e (fun z=>nomatch z) h
 |@frz a ob xs ea=>
  cases(show u=Value.ref a from rx);obtain⟨_,_,_,n,_,h1⟩:=(show N7 X.prog X.w H s.heap a (.frz ob (.lst xs))from I.hok a _ ea);exact K0 PySem.W.kitx_list I.kIn ⟨_,h1,rfl⟩ e (fun z=>nomatch z) h
 |@tup a xs ea=>
  cases(show u=Value.ref a from rx);obtain⟨_,_,_,p⟩:=(show N7 X.prog X.w H s.heap a (.tup xs)from I.hok a _ ea);obtain⟨o,h1,h2,_⟩:=p;exact K0 PySem.W.kitx_tuple I.kIn ⟨o,h1,(Rt h2).1⟩ e (fun z=>nomatch z) h
 |@dK a kvs ea=>
  cases(show u=Value.ref a from rx);obtain⟨_,_,vs,_,p⟩:=(show N7 X.prog X.w H s.heap a (.dK kvs)from I.hok a _ ea);obtain⟨o,es,ep,h1,h2,_⟩:=p;exact K0 PySem.W.kitx_dict I.kIn ⟨o,h1,h2.1⟩ e (fun z=>nomatch z) h
 |@dT a kvs ea=>
  cases(show u=Value.ref a from rx);obtain⟨_,_,xs,_,o,es,ep,h1,h2,_⟩:=(show N7 X.prog X.w H s.heap a (.dT kvs)from I.hok a _ ea);exact K0 PySem.W.kitx_dict I.kIn ⟨o,h1,h2.1⟩ e (fun z=>nomatch z) h
 |@ins a C dx fs ea cl ha hn Yg hm=>
  cases(show u=Value.ref a from rx);obtain⟨mA,O,_⟩:=ku I.hok ea;obtain⟨od,J,_⟩:=O.look;exact K0 (PySem.W.kitx_own (cl.get _) cl.hd ha hn Yg hm) I.kIn J e (fun z=>nomatch z) h
end
structure N1(k:Nat)(A:Tz):Prop where
 hd:A.handled=none
 dp:A.depth+3*k+5<recursionLimit
 un:A.units+16*k+200<cLine
def N1.mono{j k:Nat}(r:N1 k A)(h:j<=k):N1 j A:=⟨r.hd,by have:=r.dp;lia,by have:=r.un;lia⟩
def N1.m{j k:Nat}(r:N1 k A)(h:j<=k:=by decide):N1 j A:=r.mono h
def N1.deeper{k:Nat}(r:N1 (k+1) A)(env:Env):N1 k (A.deeper env):=
 ⟨r.hd,by have:=r.dp;show A.depth+1+3*k+5<_;lia,by have:=r.un;show A.units+3+16*k+200<_;lia⟩
variable{kw:List (Str×Tr)}
def sG:(A.under (.builtin "type.__call__" ⟨.ref C::us,kw⟩)).depth=A.depth+1:=by
 first|rfl|simp[Around.under,Code.weight,Code.isCreation,Code.isGuard,Code.isCaller,Code.frames,Code.isFrame,guardIds]
def sI:(A.under (.builtin "type.__call__" ⟨.ref C::us,kw⟩)).units=A.units+1:=by
 first|rfl|simp[Around.under,Code.cUnits,Code.frames,Code.isFrame]
def N1.make{k:Nat}(r:N1 (k+1) A)(C:Ts)(us:List Tr)(kw:List (Str×Tr)):N1 k (A.under (.builtin "type.__call__" ⟨.ref C::us,kw⟩)):=
 ⟨r.hd,by have:=r.dp;rw[sG];lia,by have:=r.un;rw[sI];lia⟩
def N1.depth{k:Nat}(r:N1 k A):A.depth<recursionLimit:=by have:=r.dp;lia
def N1.units{k:Nat}(r:N1 k A):A.units+64<cLine:=by have:=r.un;lia
def yc:TA:=fun _ H Q=>Q [] H
def uR(ta:TE)(tr:TA):TA:=fun σ H Q=>ta σ H fun x H1=>tr σ H1 fun xs H2=>Q (x::xs) H2
section
variable{X:Cx}{e:Expr}{es:List Expr}{te:TE}{t:TA}{pos:Pos}
def ac:PA X [] yc:=⟨fun _ _ _ _ H Q I h=>Calls.spliced_nil ⟨[],H,I,.nil,h⟩⟩
def aa(ha:PE X e te)(hr:PA X es t)(hs:starEach (e::es) X.env=(false,eval e X.env)::starEach es X.env:=by rfl):PA X (e::es) (uR te t):=by
 refine⟨?_⟩;intro pos pins s σ H Q I h;rw[hs];show wpAny _ _ (spliced ((false,eval e X.env)::backTo pos (starEach es X.env))) _ _ s;refine Calls.spliced_cons (bH (ha pins s σ H _ I h) fun u s1 hZZ=>?_);walk_at "I";exact bH (hr pos pins s1 σ H1 _ I1 q1) fun us s2⟨xs,H2,I2,r2,q2⟩=>⟨x::xs,H2,I2,.cons r1 r2,q2⟩
def Iy(t:TA):TE:=fun σ H Q=>t σ H fun xs H1=>xs.length<=sizeLine/\∀p,H1 p=none->Q (.ref p) (aI H1 p (.tup xs))
def Iz(t:TA):TE:=fun σ H Q=>t σ H fun xs H1=>xs.length<=sizeLine/\∀p,H1 p=none->Q (.ref p) (aI H1 p (.lst xs))
def ay{x1}(h:PA X es t):PE X (.Tuple es x1 pos) (Iy t):=by
 refine⟨?_⟩;intro pins s σ H Q I hq;refine wpAny_Tuple_spliced (bH (h pos pins s σ H _ I hq) fun us s1⟨xs,H1,I1,r,z,q⟩=>⟨by rw[<-r.length];exact z,?_⟩);have hf:H1 s1.heap.objs.size=none:=I1.hok.fresh (J2 _);refine⟨.ref s1.heap.objs.size,aI H1 s1.heap.objs.size (.tup xs),I1.laid (t':=s1.toks) (fun b u e=>JQ _ e) (J2 _) ?_,rfl,q _ hf⟩;exact⟨z,us,r,⟨_,Ki _ rfl,rfl,_,rfl⟩⟩
def aT(h:PA X es t):PE X (.List es pos) (Iz t):=by
 refine⟨?_⟩;intro pins s σ H Q I hq;refine wpAny_List_spliced (bH (h pos pins s σ H _ I hq) fun us s1⟨xs,H1,I1,r,z,q⟩=>⟨by rw[<-r.length];exact z,?_⟩);have hf:H1 s1.heap.objs.size=none:=I1.hok.fresh (J2 _);refine⟨.ref s1.heap.objs.size,aI H1 s1.heap.objs.size (.lst xs),I1.laid (t':=s1.toks) (fun b u e=>JQ _ e) (J2 _) ?_,rfl,q _ hf⟩;exact⟨z,us,0,r,Ki _ rfl⟩
end
abbrev Sp:=TQ->Hp->VK->XK->Prop
abbrev xF:=List Env->Hp->Tu->XK->Tr->Tu->Prop
structure PN(P:Tv)(w:Tw)(K:ZF)(mg:Str->Option Tr)(base:Heap)(A:Tz)(outer:List Env)(s:Tu)(H:Hp):Prop where
 frames:A.frames=some outer
 mod:Mod K mg base
 bs:∀b o,base.get? b=some o->s.heap.get? b=some o/\H b=none
 bsz:base.objs.size<=s.heap.objs.size
 funs:s.heap.FunFrames base outer
 frf:∀b∈ny outer,H b=none
 hok:Oo P w H s.heap
 bare:AllBare s.gens
inductive CE(outer:List Env)(P:Tv)(w:Tw)(H:Hp)(s:Tu)(Q:VK)(u:Tr)(s':Tu):Prop
 |mk(v H':_):s'.os=s.os->AllBare s'.gens->Un (ny outer) [] H H' s.heap s'.heap->Oo P w H' s'.heap->N3 v u->Q v H'->CE outer P w H s Q u s'
def CR(CX:xF)(outer:List Env)(P:Tv)(w:Tw)(H:Hp)(s:Tu)(Q:VK)(E:XK)(r:Result)(s':Tu):Prop:=
 match r with
 |.ok (.ret u)=>CE outer P w H s Q u s'
 |.ok _=>False
 |.error e=>CX outer H s E e s'
structure NZ(P:Tv)(w:Tw)(K:ZF)(mg:Str->Option Tr)(base:Heap)(CX:xF)(k:Nat)(f:Ts)(fd:TB)(ps:TH)(sp:Sp):Prop where
 len:∀vs H Q E,sp vs H Q E->vs.length=ps.length
 run:∀(A:Tz)(outer:List Env)(s:Tu)(H:Hp)(args:Args)(us:List Tr)(vs:TQ)(Q:VK)(E:XK),N1 k A->PN P w K mg base A outer s H->BindsTo s fd args (ps.zip us)->N2 vs us->sp vs H Q E->
  codeAny (model P w) A (.call (.ref f) args) (CR CX outer P w H s Q E) s
variable{sp:Sp}{ps:TH}{fd:TB}{CX:xF}{base:Heap}{mg:Str->Option Tr}
def NZ.mono{j k:Nat}{f:Ts}(F:NZ P w K mg base CX j f fd ps sp)(h:j<=k):
  NZ P w K mg base CX k f fd ps sp:=⟨F.len,fun A outer s H args us vs Q E hr=>F.run A outer s H args us vs Q E (hr.mono h)⟩
def NZ.imp{k:Nat}{f:Ts}{sp sp':Sp}(F:NZ P w K mg base CX k f fd ps sp)
  (h:∀vs H Q E,sp' vs H Q E->sp vs H Q E):NZ P w K mg base CX k f fd ps sp':=
 ⟨fun vs H Q E q=>F.len vs H Q E (h _ _ _ _ q),fun A outer s H args us vs Q E hr he hb hv hs=>F.run A outer s H args us vs Q E hr he hb hv (h _ _ _ _ hs)⟩
variable{outer:List Env}
def PN.make(e:PN P w K mg base A outer s H)(C:Ts)(us:List Tr)(kw:List (Str×Tr)):
  PN P w K mg base (A.under (.builtin "type.__call__" ⟨.ref C::us,kw⟩)) outer s H:=⟨by first|exact e.frames|(simpa[Around.under,Code.envs,Code.isFrame,pushEnvs]using e.frames),e.mod,e.bs,e.bsz,e.funs,e.frf,e.hok,e.bare⟩
section
variable{X:Cx}{pins:List (Ts×Obj)}{σ:St}{H:Hp}{s s':Tu}
def NX.env0(I:NX X pins σ H s):PN X.prog X.w X.K X.mg X.base X.A X.stack s H:=
 ⟨I.ok.frames,I.ok.mod,I.bs,Kx I.ok.bsz I.sz,I.stack,I.stkFree,I.hok,I.bare⟩
def NX.after{Q:VK}(I:NX X pins σ H s)(h:CE X.stack X.prog X.w H s Q u s'):EP X pins σ Q u s':=by
 obtain⟨v,H',os,bare,un,hok,r,q⟩:=h;obtain⟨hh,g,d,t,os'⟩:=s';obtain rfl:os'=s.os:=os;exact⟨v,H',I.call (h':=hh) (g':=g) (d':=d) (t':=t) (ch:=[]) un hok bare (fun b z=>absurd z (by simp)),r,q⟩
end
def uT(sp:Sp)(dvs:TQ)(E:XK)(t:TA):TE:=fun σ H Q=>t σ H fun vs H1=>sp (vs++dvs) H1 Q E
inductive yd(C:Ts)(m:Str)(sp:Sp)(dvs:TQ)(E:XK)(t:TA)(σ:St)(Q:VK)(x:V)(H1:Hp):Prop
 |mk(a dx fs:_):x=.ref a->H1 a=some (.ins C dx fs)->fs.lookup m=none->(t σ H1 fun vs H2=>sp (x::(vs++dvs)) H2 Q E)->yd C m sp dvs E t σ Q x H1
def Gy(C:Ts)(m:Str)(sp:Sp)(dvs:TQ)(E:XK)(ta:TE)(t:TA):TE:=fun σ H Q=>ta σ H fun x H1=>yd C m sp dvs E t σ Q x H1
def Gz(C:Ts)(sp:Sp)(dvs:TQ)(E:XK)(t:TA):TE:=fun σ H Q=>t σ H fun vs H1=>∀x dx,H1 x=none->H1 dx=none->dx≠x->
 sp (.ref x::(vs++dvs)) (aI (aI H1 dx (.own x)) x (.ins C dx [])) (fun v H2=>v=.non/\Q (.ref x) H2) E
def Oa(K:ZF)(fd:TB)(ps:TH)(ds:List Tr):Prop:=
 ∀(s:Tu)(us:List Tr),K.In s.heap->(us++ds).length=ps.length->BindsTo s fd ⟨us,[]⟩ (ps.zip (us++ds))
def Oa.all(h:∀us:List Tr,us.length=ps.length->bindArgs fd ⟨us,[]⟩=pure (ps.zip us)):Oa K fd ps []:=fun s us _ hl=>by
 rw[KB]at hl⊢;exact .of_eq (h us hl)
def fj(CX:xF)(X:Cx)(E:XK):Prop:=∀(pins:List (Ts×Obj))(σ:St)(H:Hp)(s:Tu)(e:Tr)(s':Tu),NX X pins σ H s->CX X.stack H s E e s'->X.xe e s'
section
variable{X:Cx}{CX:xF}{k:Nat}{f C:Ts}{fd:TB}{ps:TH}{sp:Sp}{dvs:TQ}{ds:List Tr}{E:XK}{x m:Str}{p pos B':Pos}{e o:Expr}{es:List Expr}{ta:TE}{t:TA}
def jE{pins:List (Ts×Obj)}{σ:St}{H:Hp}{s:Tu}{Q:VK}{us:List Tr}{vs:TQ}(F:NZ X.prog X.w X.K X.mg X.base CX k f fd ps sp)(hr:N1 k X.A)(hb:Oa X.K fd ps ds)(hd:N2 dvs ds)(hx:fj CX X E)
  (I:NX X pins σ H s) (r:N2 vs us) (h:sp (vs++dvs) H Q E):wpAny (model X.prog X.w) X.A (call (.ref f) us) (EP X pins σ Q) X.xe s:=by
 have r2:N2 (vs++dvs) (us++ds):=r.append hd;have hl:(us++ds).length=ps.length:=by rw[<-r2.length];exact F.len _ _ _ _ h
 refine J_ (C_ (F.run X.A X.stack s H ⟨us,[]⟩ (us++ds) (vs++dvs) Q E hr I.env0 (hb s us I.kIn hl) r2 h) fun r s' hq=>?_);cases r with
 |error e=>exact hx pins σ H s e s' I hq
 |ok fl=>
  cases fl with
  |ret u=>exact I.after hq
  |next=>exact False.elim hq
  |brk=>exact False.elim hq
  |cont=>exact False.elim hq
def Bv(F:NZ X.prog X.w X.K X.mg X.base CX k f fd ps sp)(hr:N1 k X.A)(hg:Gl X x)(hm:X.mg x=some (.ref f))(hk:PySem.W.keepIn X.K (.ref f)=true)(hb:Oa X.K fd ps ds)(hd:N2 dvs ds)(hx:fj CX X E)
  (ha:PA X (e::es) t) (Ul:(x==("__debug__":Str))=false:=by decide) (he:starEach (e::es) X.env=(false,eval e X.env)::starEach es X.env:=by rfl) (TY:(backTo pos (starEach es X.env)).any (·.1)=false:=by rfl) :
  PE X (.Call (.Name x p) (e::es) [] pos) (uT sp dvs E t):=by
 walk_at "p";refine s_ (fV I hg hm ?_ Ul);refine Lb (h₀:=X.base) I.ok.mod.kin hk (bH (ha pos pins s σ H _ I h) fun us s1⟨vs,H1,I1,r,q⟩=>⟨I1.kIn,?_⟩) he TY;exact jE F hr hb hd hx I1 r q
def ye(F:NZ X.prog X.w X.K X.mg X.base CX k f fd ps sp)(hr:N1 k X.A)(hg:Gl X x)(hm:X.mg x=some (.ref f))(hk:PySem.W.keepIn X.K (.ref f)=true)(hb:Oa X.K fd ps ds)(hd:N2 dvs ds)(hx:fj CX X E)
  (Ul:(x==("__debug__":Str))=false:=by decide):PE X (.Call (.Name x p) [] [] pos) (uT sp dvs E yc):=by
 walk_at "p";refine s_ (fV I hg hm ?_ Ul);exact PySem.W.callWith_K0 I.kIn hk (jE (us:=[]) F hr hb hd hx I .nil h)
def uU{pl:Sem Bool}(he:PE X o ta)(c:PP X.K C)(hm:qG X.K C m f)(F:NZ X.prog X.w X.K X.mg X.base CX k f fd ps sp)(hr:N1 k X.A)(hb:Oa X.K fd ps ds)(hd:N2 dvs ds)(hx:fj CX X E)(ha:PA X (e::es) t)
  (M':starEach (e::es) X.env=(false,eval e X.env)::starEach es X.env:=by rfl) (TY:(backTo pos (starEach es X.env)).any (·.1)=false:=by rfl)
  (ht:eval (.Call (.Attribute o m B') (e::es) [] pos) X.env=(do
   let ov <-eval o X.env
   standAt B'.atName
   let(f,first) <-holding [ov] (getMethod ov m pl)
   callWith pos f first (backTo pos (starEach (e::es) X.env)) (backToKw pos (keywordEach [] X.env))):=by rfl) :
  PE X (.Call (.Attribute o m B') (e::es) [] pos) (Gy C m sp dvs E ta t):=by
 walk_at "p";refine A_ (pl:=pl) (bH (he pins s σ H _ I h) fun u s1 hZZ=>?_) ht;obtain⟨x,H1,I1,rx,a,dx,fs,ex,ea,l,q⟩:=hZZ;subst ex;obtain rfl:u=Value.ref a:=rx;refine fZ I1 ea c hm l ?_;refine Lb (first:=[.ref a]) (h₀:=X.base) I.ok.mod.kin hm.kp (bH (ha pos pins s1 σ H1 _ I1 q) fun us s2⟨vs,H2,I2,r,q2⟩=>⟨I2.kIn,?_⟩) M' TY;exact jE (us:=.ref a::us) (vs:=.ref a::vs) F hr hb hd hx I2 (.cons rfl r) q2
structure Mk(K:ZF)(C f:Ts):Prop where
 makes:PySem.W.makesIn K C=true
 init:PySem.W.findIn K (.ref C) "__init__"=some (some (.ref f))
 fn:PySem.W.isFn K (.ref f)=true
 kp:PySem.W.keepIn K (.ref C)=true
def yf{pins:List (Ts×Obj)}{σ:St}{H:Hp}{s:Tu}{Q:VK}{us:List Tr}{vs:TQ}(M:Mk X.K C f)(F:NZ X.prog X.w X.K X.mg X.base CX k f fd ps sp)(hr:N1 (k+1) X.A)(hb:Oa X.K fd ps ds)(hd:N2 dvs ds)
  (hx:fj CX X E) (I:NX X pins σ H s) (r:N2 vs us)
  (h:∀x dx,H x=none->H dx=none->dx≠x->sp (.ref x::(vs++dvs)) (aI (aI H dx (.own x)) x (.ins C dx [])) (fun v H2=>v=.non/\Q (.ref x) H2) E) :
  wpAny (model X.prog X.w) X.A (call (.ref C) us) (EP X pins σ Q) X.xe s:=by
 have hq:=h (s.heap.objs.size+1) s.heap.objs.size (I.hok.fresh (RS _)) (I.hok.fresh (J2 _)) (Kq (Lv _));have I2:=NX.made (C:=C) I;have r2:N2 (V.ref (s.heap.objs.size+1)::(vs++dvs)) (Value.ref (s.heap.objs.size+1)::(us++ds)):=.cons rfl (r.append hd);have hl:(Value.ref (s.heap.objs.size+1)::us++ds).length=ps.length:=by
  have e:=r2.length;rw[F.len _ _ _ _ hq]at e;exact e.symm
 refine J_ (ya (f:=f) I.kIn M.makes M.init (beq_iff_eq.mp M.fn) (C_ (F.run _ X.stack _ _ ⟨Value.ref (s.heap.objs.size+1)::us,[]⟩ (Value.ref (s.heap.objs.size+1)::(us++ds)) _ _ E (hr.make C us [])
  (I2.env0.make C us []) (hb _ (Value.ref (s.heap.objs.size+1)::us) I2.kIn hl) r2 hq) fun r s' UQ=>?_))
 cases r with
 |error e=>exact hx pins σ _ _ e s' I2 UQ
 |ok fl=>
  cases fl with
  |ret u=>
   obtain⟨v,H',I3,rv,ev,q3⟩:=I2.after UQ;subst ev;exact⟨rv,⟨V.ref (s.heap.objs.size+1),H',I3,rfl,q3⟩⟩
  |next=>exact False.elim UQ
  |brk=>exact False.elim UQ
  |cont=>exact False.elim UQ
def uV(M:Mk X.K C f)(F:NZ X.prog X.w X.K X.mg X.base CX k f fd ps sp)(hr:N1 (k+1) X.A)(hg:Gl X x)(hm:X.mg x=some (.ref C))(hb:Oa X.K fd ps ds)(hd:N2 dvs ds)(hx:fj CX X E)
  (ha:PA X (e::es) t) (Ul:(x==("__debug__":Str))=false:=by decide) (he:starEach (e::es) X.env=(false,eval e X.env)::starEach es X.env:=by rfl) (TY:(backTo pos (starEach es X.env)).any (·.1)=false:=by rfl) :
  PE X (.Call (.Name x p) (e::es) [] pos) (Gz C sp dvs E t):=by
 walk_at "p";refine s_ (fV I hg hm ?_ Ul);refine Lb (h₀:=X.base) I.ok.mod.kin M.kp (bH (ha pos pins s σ H _ I h) fun us s1⟨vs,H1,I1,r,q⟩=>⟨I1.kIn,?_⟩) he TY;exact yf M F hr hb hd hx I1 r q
end
structure av(N P:TH)(sc:Scope):Prop where
 kind:sc.kind=.function
 co:sc.isCoroutine=false
 gen:sc.isGenerator=false
 nd:N.Nodup
 pre:N.take P.length=P
 par:∀x∈P,sc.names.lookup x=some .local\/sc.names.lookup x=some .cell
 nofree:∀y∈sc.names,y.2≠.free
variable{sc:Scope}
def cV{N P:TH}(h:N.Nodup/\(∀x∈P,sc.names.lookup x=some .local\/sc.names.lookup x=some .cell)/\∀y∈sc.names,y.2≠.free)(a:sc.kind=.function:=by rfl)(b:sc.isCoroutine=false:=by rfl)(c:sc.isGenerator=false:=by rfl)(d:N.take P.length=P:=by rfl):av N P sc:=⟨a,b,c,h.1,d,h.2.1,h.2.2⟩
variable{n:Nat}
variable{kindOf:Str->Option NameKind}
def nJ{x:Str}:∀{binds:List (Str×Tr)}{m:Str->Option Tr},(∀v,(x,v)∉binds)->bindL kindOf binds m x=m x
 |[],_,_=>rfl
 |(n,v)::r,m,h=>by
  unfold bindL;rw[nJ fun w hw=>h w (JZ _ hw)];split
  ·have:x≠n:=by rintro rfl;exact h v JW
   simp[this]
  ·rfl
def nL{x:Str}:∀{binds:List (Str×Tr)}{m:Str->Option Tr},(∀v,(x,v)∉binds)->bindC kindOf binds m x=m x
 |[],_,_=>rfl
 |(n,v)::r,m,h=>by
  unfold bindC;rw[nL fun w hw=>h w (JZ _ hw)];split
  ·rfl
  ·have:x≠n:=by rintro rfl;exact h v JW
   simp[this]
def nN{x:Str}{v:Tr}:∀{P:TH}{vs:List Tr}{i:Nat}{m:Str->Option Tr},P.Nodup->P[i]?=some x->vs[i]?=some v->kindOf x=some .local->
  bindL kindOf (P.zip vs) m x=some v
 |[],_,_,_,_,h,_,_=>by simp at h
 |_::_,[],_,_,_,_,h,_=>by simp at h
 |p::P,w::vs,0,m,nd,h1,h2,hk=>by
  simp at h1 h2;subst h1;subst h2;show bindL kindOf ((p,w)::P.zip vs) m p=_;unfold bindL;rw[nJ fun v hv=>(Ly.mp nd).1 (LM hv).1,g_ hk];simp
 |p::P,w::vs,i+1,m,nd,h1,h2,hk=>by
  show bindL kindOf ((p,w)::P.zip vs) m x=_;unfold bindL;exact nN (i:=i) (Ly.mp nd).2 (by simpa using h1) (by simpa using h2) hk
def nO{x:Str}{v:Tr}:∀{P:TH}{vs:List Tr}{i:Nat}{m:Str->Option Tr},P.Nodup->P[i]?=some x->vs[i]?=some v->kindOf x≠some .local->
  bindC kindOf (P.zip vs) m x=some v
 |[],_,_,_,_,h,_,_=>by simp at h
 |_::_,[],_,_,_,_,h,_=>by simp at h
 |p::P,w::vs,0,m,nd,h1,h2,hk=>by
  simp at h1 h2;subst h1;subst h2;show bindC kindOf ((p,w)::P.zip vs) m p=_;unfold bindC;rw[nL fun v hv=>(Ly.mp nd).1 (LM hv).1,f_ hk];simp
 |p::P,w::vs,i+1,m,nd,h1,h2,hk=>by
  show bindC kindOf ((p,w)::P.zip vs) m x=_;unfold bindC;exact nO (i:=i) (Ly.mp nd).2 (by simpa using h1) (by simpa using h2) hk
def start(N:TH)(vs:TQ):St:=vs.map some++List.replicate (N.length-vs.length) none
def m6(CX:xF)(P:Tv)(w:Tw)(K:ZF)(mg:Str->Option Tr)(base:Heap)(N:TH)(qual:Str)(scope:Scope)(f:Ts)(cd:Tr)(A:Tz)(outer:List Env)(s:Tu)(H:Hp)(E:XK):Cx where
 prog:=P
 w:=w
 K:=K
 mg:=mg
 base:=base
 A:=A.deeper (envOfC qual scope s.heap.objs.size f cd)
 N:=N
 s₀:=s
 H₀:=H
 env:=envOfC qual scope s.heap.objs.size f cd
 outer:=outer
 stack:=envOfC qual scope s.heap.objs.size f cd::outer
 ex:=[]
 calm:=true
 fn:=fun _=>true
 pn:=[]
 xe:=fun e s'=>wpAny (model P w) (A.deeper (envOfC qual scope s.heap.objs.size f cd)) (leaving (envOfC qual scope s.heap.objs.size f cd) e) (fun _ Ur=>CX outer H s E e Ur) (fun e' Ur=>CX outer H s E e' Ur) s'
def qI{x:Str}(h:sc.names.lookup x=some .cell):∃c,(cellsFrom n sc.names []).lookup x=some c:=by
 have q:=PySem.W.cellsFrom_some sc.names n [] (.inl h);exact Option.isSome_iff_exists.mp q
def wB{CX:xF}{P:Tv}{w:Tw}{K:ZF}{mg:Str->Option Tr}{base:Heap}{N ps:TH}{qual:Str}{scope:Scope}{f:Ts}{cd:Tr}{A:Tz}{outer:List Env}{s s1:Tu}{H:Hp}{E:XK}{us:List Tr}{vs:TQ}
  (S:av N ps scope) (hd:A.handled=none) (e0:PN P w K mg base A outer s H) (hl:vs.length=ps.length) (r:N2 vs us)
  (x:InCallC s s.heap.objs.size (bindL (envOfC qual scope s.heap.objs.size f cd).kindOf (ps.zip us) fun _=>none) (cellsFrom (s.heap.objs.size+1) scope.names []) (bindC (envOfC qual scope s.heap.objs.size f cd).kindOf (ps.zip us) fun _=>none) s1) :
  NX (m6 CX P w K mg base N qual scope f cd A outer s H E) [] (start N vs) H s1:=by
 have TY:ps.length<=N.length:=by have:=e_ List.length S.pre;rw[J9]at this;lia
 obtain⟨h1,tk,rfl,hk⟩:=x.done;have WU:∀b:Ts,b∉(m6 CX P w K mg base N qual scope f cd A outer s H E).ex:=fun b z=>absurd (show b∈([]:List Ts)from z) (by simp);refine⟨⟨e0.mod,S.kind,rfl,rfl,J2 _,fun y z c h1 h2=>?_,fun y hy=>?_,fun y c _ h=>?_,fun _=>hd,Around.frames_deeper e0.frames,.inr ⟨rfl,rfl⟩,fun b z=>absurd z (WU b),e0.bs,e0.bsz,fun b _ _=>WU b,fun b z=>absurd z (WU b),e0.funs,e0.frf⟩,
  rfl,e0.bare,Un.kept hk,⟨_,x.toInCall.ns,fun i y v h1 h2 h3=>?_⟩,fun y c h=>⟨_,x.cell y c h⟩,e0.hok.fresh (J2 _),fun y c h=>?_,fun p hp=>absurd (show p∈([]:List (Ts×Obj))from hp) (by simp),e0.hok.kept hk,?_⟩
 ·exact name_of_addr x.apart (Lk h1) (Lk h2)
 ·have hy:scope.names.lookup y=some .cell\/scope.names.lookup y=some .free:=hy;rcases hy with hy|hy
  ·exact qI hy
  ·exact absurd rfl (S.nofree _ (Lk hy))
 ·exact LJ (x.above y c (Lk h))
 ·have hi:i<vs.length:=by
   unfold start at h2;by_cases hi:i<vs.length
   ·exact hi
   ·rw[Ld (by simpa using hi)]at h2;rw[List.getElem?_replicate]at h2;split at h2<;>cases h2
  have ha:vs[i]?=some v:=by
   unfold start at h2;rw[Lh (by simpa using hi),Kl]at h2;cases e:vs[i]? with
   |none=>rw[e]at h2;cases h2
   |some a=>rw[e]at h2;cases h2;rfl
  obtain⟨u,hu,rv⟩:=r.get ha;have hp:ps[i]?=some y:=by
   rw[<-S.pre,R4 zo];exact h1
  have ndP:ps.Nodup:=by rw[<-S.pre];exact S.nd.sublist (List.take_sublist _ _)
  refine⟨u,rv,?_⟩;rcases S.par y (Kg hp)with k|k
  ·exact .inl ⟨k,nN ndP hp hu k⟩
  ·obtain⟨c,e⟩:=qI (n:=s.heap.objs.size+1) k;refine .inr ⟨.inl k,c,e,?_⟩;have q:=x.cell y c e;rw[nO ndP hp hu (by show scope.names.lookup y≠_;rw[k];decide)]at q;exact q
 ·exact e0.hok.fresh (LJ (x.above y c (Lk h)))
 ·unfold start;show _=N.length;rw[JU,JY,Lm];lia
def yg{CX:xF}{P:Tv}{w:Tw}{K:ZF}{mg:Str->Option Tr}{base:Heap}{k:Nat}{f:Ts}{name qual:Str}{params:Arguments}{body:List Stmt}{scope:Scope}{dV kV doc pm Mb ct oc:Tr}{an od:Option Ts}
  {Uj:Array (Option Tr)} {N ps:TH} {sp:Sp} (lk:K.lookup f=some ⟨oc,od,.func (PySem.W.fnOf name qual params body scope dV kV doc pm an Mb ct),Uj⟩) (Ug:PySem.W.codeIn K Mb qual=true) (S:av N ps scope)
  (len:∀vs H Q E,sp vs H Q E->vs.length=ps.length)
  (Up:∀(A:Tz)(outer:List Env)(s:Tu)(H:Hp)(vs:TQ)(Q:VK)(E:XK),N1 k (A.deeper (envOfC qual scope s.heap.objs.size f Mb))->sp vs H Q E->
   ∃t,O9 (m6 CX P w K mg base N qual scope f Mb A outer s H E) body t/\t {nx:=fun _ H'=>Q .non H',rt:=Q} (start N vs) H) :
  NZ P w K mg base CX (k+1) f (PySem.W.fnOf name qual params body scope dV kV doc pm an Mb ct) ps sp:=by
 refine⟨len,fun A outer s H args us vs Q E hr e0 hb r UC=>?_⟩;have hl:=len _ _ _ _ UC;have KX:K.In s.heap:=e0.mod.kin.keeps fun b o e=>(e0.bs b o e).1;have lim:s.heap.NoLimit:=e0.mod.nolimit.keeps fun b o e=>(e0.bs b o e).1;have ZQ:∀y∈ps.zip us,scope.names.lookup y.1=some .local\/(scope.names.lookup y.1=some .cell/\((cellsFrom (s.heap.objs.size+1) scope.names []).lookup y.1).isSome=true):=fun⟨n,v⟩hy=>by
  rcases S.par n (LM hy).1 with q|q
  ·exact .inl q
  ·exact .inr ⟨q,PySem.W.cellsFrom_some _ _ _ (.inl q)⟩
 refine codeAny_call_function hr.depth (KX _ _ lk) rfl S.co S.gen rfl (PySem.W.codeRec_of KX Ug) (hb _ _ _ _ ?_);refine wpAny_newFunctionEnv_cells S.kind ZQ fun env he s1 x=>?_;subst he;refine⟨lim.keeps x.toInCall.keep,codeAny_func ?_⟩;obtain⟨t,ht,hq⟩:=Up A outer s H vs Q E (hr.deeper _) UC;have I:NX (m6 CX P w K mg base N qual scope f Mb A outer s H E) [] (start N vs) H s1:=wB S hr.hd e0 hl r x;refine m_ (ht [] s1 (start N vs) H _ I hq) (fun fl s' hs=>?_) fun e s' hs=>hs;have F':∀{σ':St}{H':Hp}{v:V}{u:Tr},NX (m6 CX P w K mg base N qual scope f Mb A outer s H E) [] σ' H' s'->N3 v u->Q v H'->CE outer P w H s Q u s':=
  fun{σ' H' v u}J rv q=>⟨v,H',J.os,J.bare,J.base,J.hok,rv,q⟩
 cases fl with
 |ret u=>
  obtain⟨v,σ',H',J,rv,q⟩:=hs;exact F' J rv q
 |next=>
  obtain⟨σ',H',J,q⟩:=hs;exact F' (v:=V.non) (u:=Value.none) J rfl q
 |brk=>
  obtain⟨_,_,_,q⟩:=hs;exact False.elim q
 |cont=>
  obtain⟨_,_,_,q⟩:=hs;exact False.elim q
section
variable{X:Cx}{x:Str}{p pos:Pos}{e:Expr}{es:List Expr}{t:TA}{id T:String}{r:TQ->Hp->VK->Prop}
def Ju(r:TQ->Hp->VK->Prop)(t:TA):TE:=fun σ H Q=>t σ H fun vs H1=>r vs H1 Q
def aC(hc:dJ X (.builtin id) r)(hg:Gl X x)(hm:X.mg x=none)(hv:bootBuiltins x=some (.builtin id))(ha:PA X (e::es) t)(hn:x≠"__name__":=by decide)(Ul:(x==("__debug__":Str))=false:=by decide)
  (he:starEach (e::es) X.env=(false,eval e X.env)::starEach es X.env:=by rfl) (TY:(backTo pos (starEach es X.env)).any (·.1)=false:=by rfl):PE X (.Call (.Name x p) (e::es) [] pos) (Ju r t):=by
 walk_at "p";refine s_ (iy I hg hm hv ?_ hn Ul);exact RL (bH (ha pos pins s σ H _ I h) fun us s1⟨vs,H1,I1,r1,q1⟩=>hc pins s1 σ H1 vs us Q I1 r1 q1) he TY
def aV(hc:dJ X (.type T) r)(hg:Gl X x)(hm:X.mg x=none)(hv:bootBuiltins x=some (.type T))(ha:PA X (e::es) t)(hn:x≠"__name__":=by decide)(Ul:(x==("__debug__":Str))=false:=by decide)
  (he:starEach (e::es) X.env=(false,eval e X.env)::starEach es X.env:=by rfl) (TY:(backTo pos (starEach es X.env)).any (·.1)=false:=by rfl):PE X (.Call (.Name x p) (e::es) [] pos) (Ju r t):=by
 walk_at "p";refine s_ (iy I hg hm hv ?_ hn Ul);exact Lc (bH (ha pos pins s σ H _ I h) fun us s1⟨vs,H1,I1,r1,q1⟩=>hc pins s1 σ H1 vs us Q I1 r1 q1) he TY
end
end L2
namespace HT
open PySem PyProof.Rows
section
variable{prog:Tv}{w:Tw}{A:Tz}{E:Tr->Tu->Prop}{s:Tu}
variable{t b:Ts}
def cat_tup{vs ws:List Tr}{Q:Tr->Tu->Prop}(ht:IsTup s.heap t vs.toArray)(hb:IsTup s.heap b ws.toArray)(hv:vs≠[])
  (h1:ws=[]->Q (.ref t) s) (h2:ws≠[]->Q (.ref s.heap.objs.size) {s with heap:=s.heap.push {cls:=.type "tuple",data:=.seq (vs++ws).toArray} })
  (hsz:vs.length+ws.length<=sizeLine):wpAny (model prog w) A (binaryOp .Add (.ref t) (.ref b)) Q E s:=by
 obtain⟨⟨cls,dd,data,sl⟩,ho,hc,n,hd⟩:=id ht;obtain⟨⟨cls2,dd2,data2,sl2⟩,TV,Yo,n2,hd2⟩:=id hb;simp only at hc hd Yo hd2;subst hc hd Yo hd2;have e:vs.toArray++ws.toArray=(vs++ws).toArray:=by simp
 by_cases hw:ws=[]
 ·exact concat_meets ⟨_,ho,rfl⟩ ⟨_,TV,rfl⟩ noFill_tuple_add seq_tuple_add PySem.F.slot_tuple_add PySem.F.entry_tuple_add (R3 _ _)
   (tuple_addW1 t b vs.toArray ws.toArray n n2 dd dd2 sl sl2 (by simpa using hv) (by simp[hw])) ⟨ho,TV,h1 hw⟩
 ·refine concat_meets ⟨_,ho,rfl⟩ ⟨_,TV,rfl⟩ noFill_tuple_add seq_tuple_add PySem.F.slot_tuple_add PySem.F.entry_tuple_add (R3 _ _)
   (tuple_addW2 t b vs.toArray ws.toArray n n2 dd dd2 sl sl2 (by simpa using hv) (by simpa using hw) (by rw[Ks,Ks];exact hsz)) ⟨ho,TV,?_⟩
  rw[e];exact h2 hw
def sIx(n d:Nat):Option Int->Nat
 |none=>d
 |some v=>if v<0 then(v+(n:Int)).toNat else min v.toNat n
def sIx_none(n d:Nat):sIx n d none=d:=rfl
def sIx_nat(n d k:Nat):sIx n d (some (k:Int))=min k n:=by
 show(if(k:Int)<0 then((k:Int)+(n:Int)).toNat else min (k:Int).toNat n)=min k n;rw[f_ zo,Lf]
def QZ(n d:Nat)(hd:d<=n)(o:Option Int):sIx n d o<=n:=by
 cases o with
 |none=>exact hd
 |some v=>
  show(if v<0 then(v+(n:Int)).toNat else min v.toNat n)<=n;by_cases hv:v<0
  ·rw[g_ hv];lia
  ·rw[f_ hv];exact RO _ _
def Qe(v:Int)(n d:Nat):(if v<0 then max (v+(n:Int)) 0 else min v (n:Int))=((sIx n d (some v):Nat):Int):=by
 show(if v<0 then max (v+(n:Int)) 0 else min v (n:Int))=(((if v<0 then(v+(n:Int)).toNat else min v.toNat n):Nat):Int);by_cases hv:v<0
 ·simp only[g_ hv];lia
 ·simp only[f_ hv];lia
def PZ(lo hi:Option Int)(n:Nat):Builtin.Slice.sliceAdjust lo hi 1 (n:Int)=(((sIx n 0 lo:Nat):Int),((sIx n n hi:Nat):Int)):=by
 have h1:¬((1:Int)<0):=by lia
 unfold Builtin.Slice.sliceAdjust;simp only[h1,Pi];refine Prod.ext ?_ ?_
 ·cases lo with
  |none=>rfl
  |some v=>exact Qe v n 0
 ·cases hi with
  |none=>rfl
  |some v=>exact Qe v n n
def P1(i j:Nat):Builtin.Slice.slicePlaces (i:Int) (j:Int) 1=j-i:=by
 unfold Builtin.Slice.slicePlaces;have h1:(1:Int)>0:=by lia
 simp only[h1,O_,Int.ediv_one];split<;>lia
def Ph{v:Tr}{o:Option Int}{Q:Option Int->Tu->Prop}(p:IsPart v o)(h:Q o s):wpAny (model prog w) A (Builtin.Slice.slicePartIndex v) Q E s:=by
 cases p with
 |none=>exact slicePart_none h
 |int i t=>exact slicePart_int h
variable{lo hi:Option Int}{vl vu:Tr}{sl:Ts}
def OW{n:Nat}{Q:Int×Int×Nat->Tu->Prop}(hs:s.heap.IsSliceOf sl vl vu .none)(pl:IsPart vl lo)(pu:IsPart vu hi)
  (h:Q (((sIx n 0 lo:Nat):Int),1,sIx n n hi-sIx n 0 lo) s):wpAny (model prog w) A (Builtin.Slice.sliceApplied (.ref sl) (pure (n:Int))) Q E s:=by
 obtain⟨os,Wm,WA,Wy⟩:=id hs;unfold Builtin.Slice.sliceApplied Builtin.Slice.sliceFields;refine a_ (a_ (j_ Wm Wy (x:=vl) rfl (a_ (j_ Wm Wy (x:=vu) rfl (a_ (j_ Wm Wy (x:=.none) rfl (c_ ?_)))))));refine a_ (slicePart_none ?_);show wpAny _ _ (if((1:Int)==0)=true then _ else _) _ _ s;rw[f_ zd];refine a_ (Ph pl (a_ (Ph pu (a_ (c_ ?_)))));show wpAny _ _ (match Builtin.Slice.sliceAdjust lo hi 1 (n:Int)with|(lo,hi)=>pure (lo,(1:Int),Builtin.Slice.slicePlaces lo hi 1)) _ _ s;rw[PZ lo hi n];show wpAny _ _ (pure (((sIx n 0 lo:Nat):Int),(1:Int),Builtin.Slice.slicePlaces ((sIx n 0 lo:Nat):Int) ((sIx n n hi:Nat):Int) 1)) _ _ s;rw[P1];exact c_ h
def QF(xs:Array Tr)(i k:Nat):((List.range k).filterMap fun(m:Nat)=>xs[((i:Int)+(m:Int)*1).toNat]?).toArray=((xs.toList.drop i).take k).toArray:=by
 have e:(fun(m:Nat)=>xs[((i:Int)+(m:Int)*1).toNat]?)=fun m=>xs[i+m]?:=by
  funext m;have:((i:Int)+(m:Int)*1).toNat=i+m:=by lia
  rw[this]
 rw[e];have:=pick_run xs i k;rw[List.filterMap_map]at this;have e2:((fun x=>xs[x]?)∘fun x=>i+x)=fun m=>xs[i+m]?:=rfl;rw[e2]at this;rw[this]
def getItem_tuple_cut{Me:Array Tr}{Q:Tr->Tu->Prop}(ht:IsTup s.heap t Me)(hs:s.heap.IsSliceOf sl vl vu .none)(pl:IsPart vl lo)(pu:IsPart vu hi)
  (hw:¬(sIx Me.size 0 lo=0/\sIx Me.size Me.size hi=Me.size))
  (h:Q (.ref s.heap.objs.size) {s with heap:=s.heap.push {cls:=.type "tuple",data:=.seq ((Me.toList.drop (sIx Me.size 0 lo)).take (sIx Me.size Me.size hi-sIx Me.size 0 lo)).toArray} })
  (hsz:Me.size<=sizeLine):wpAny (model prog w) A (getItem (.ref t) (.ref sl)) Q E s:=by
 have Vu:sizeOk (.seq ((Me.toList.drop (sIx Me.size 0 lo)).take (sIx Me.size Me.size hi-sIx Me.size 0 lo)).toArray):=by
  show((Me.toList.drop (sIx Me.size 0 lo)).take (sIx Me.size Me.size hi-sIx Me.size 0 lo)).toArray.size<=sizeLine;rw[Ks,J9,KU,Lw];lia
 have hj:sIx Me.size Me.size hi<=Me.size:=QZ _ _ (J2 _) hi;obtain⟨os,Wm,WA,Wy⟩:=id hs;have hTs:s.TypeIs (.ref sl) "slice":=⟨os,Wm,WA⟩;unfold getItem;try with_reducible refine q_ ?_
 first|refine a_ (c_ ?_)|skip
 refine a_ (wpAny_sequenceKey ht.typeIs zd ?_);refine a_ (u_ (name:=Str.ofString "__getitem__") ht.typeIs RI
  (I_ RI ht.typeIs entry_tuple_getitem ?_ (args_tuple_getitem _ _)))
 show wpAny _ _ (Builtin.Tuple.tupleItemsOf (.ref t)>>=_) _ _ s;refine a_ (tupleItemsOf_ ht ?_);refine a_ (wpAny_typeOf hTs ?_);rw[g_ zd];refine a_ (OW hs pl pu ?_);have VJ:¬((((sIx Me.size 0 lo:Nat):Int)==0&&(1:Int)==1&&(sIx Me.size Me.size hi-sIx Me.size 0 lo)==Me.size)=true):=by
  intro q;rw[KQ,KQ]at q;have q1:((sIx Me.size 0 lo:Nat):Int)=0:=eq_of_beq q.1.1;have q2:sIx Me.size Me.size hi-sIx Me.size 0 lo=Me.size:=eq_of_beq q.2;exact hw ⟨zo,zo⟩
 show wpAny _ _ (if(((sIx Me.size 0 lo:Nat):Int)==0&&(1:Int)==1&&(sIx Me.size Me.size hi-sIx Me.size 0 lo)==Me.size)=true then _ else _) _ _ s;rw[f_ VJ,QF];first
  |exact a_ (m:=Builtin.Tuple.tupleExact _) (w_ (c_ ⟨_,rfl,c_ h⟩) Vu)
  |exact a_ (m:=Builtin.Tuple.tupleExact _) (w_ (a_ (c_ (c_ ⟨_,rfl,c_ h⟩))) Vu)
  |exact a_ (a_ (m:=Builtin.Tuple.tupleExact _) (w_ (c_ (c_ ⟨_,rfl,c_ h⟩)) Vu))
  |exact a_ (a_ (m:=Builtin.Tuple.tupleExact _) (w_ (c_ ⟨_,rfl,c_ h⟩) Vu))
end
end HT
namespace L2
open PySem PySem.Spec PyProof.Rows
abbrev TO:=St->Hp->(Option Int->Hp->Prop)->Prop
structure PO(X:Cx)(e:Option Expr)(t:TO):Prop where
 run:∀(pins:List (Ts×Obj))(s:Tu)(σ:St)(H:Hp)(Q:Option Int->Hp->Prop),NX X pins σ H s->t σ H Q->
  wpAny (model X.prog X.w) X.A (evalPart e X.env) (fun u s'=>∃o H',NX X pins σ H' s'/\IsPart u o/\Q o H') X.xe s
instance {X:Cx}{e:Option Expr}{t:TO}:CoeFun (PO X e t) fun _=>∀(pins:List (Ts×Obj))(s:Tu)(σ:St)(H:Hp)(Q:Option Int->Hp->Prop),NX X pins σ H s->t σ H Q->
  wpAny (model X.prog X.w) X.A (evalPart e X.env) (fun u s'=>∃o H',NX X pins σ H' s'/\IsPart u o/\Q o H') X.xe s:=⟨PO.run⟩
def Bw:TO:=fun _ H Q=>Q none H
inductive yh(Q:Option Int->Hp->Prop)(x:V)(H1:Hp):Prop
 |mk(i:_):x=.int i->Q (some i) H1->yh Q x H1
def yi(t:TE):TO:=fun σ H Q=>t σ H fun x H1=>yh Q x H1
section
variable{X:Cx}{e:Expr}{te:TE}{lo hi:Option Expr}{tl th:TO}{pos p2:Pos}
def i7:PO X none Bw:=by
 walk_at "p";rw[evalPart_none];exact c_ ⟨none,H,I,.none,h⟩
def cW(h:PE X e te):PO X (some e) (yi te):=by
 refine⟨?_⟩;intro pins s σ H Q I hw;rw[evalPart_some];refine bH (h pins s σ H _ I hw) fun u s1 hZZ=>?_;walk_at "I";obtain⟨i,rfl,q⟩:=q1;obtain⟨t,rfl⟩:=r1;exact⟨some i,H1,I1,.int i t,q⟩
def HU(X:Cx)(r:V->Option Int->Option Int->Hp->VK->Prop):Prop:=
 ∀(pins:List (Ts×Obj))(s:Tu)(σ:St)(H:Hp)(x:V)(v vl vu:Tr)(lo hi:Option Int)(sl:Ts)(Q:VK),NX X pins σ H s->N3 x v->s.heap.IsSliceOf sl vl vu .none->IsPart vl lo->IsPart vu hi->r x lo hi H Q->
  ∃T id,typeLookup (.type T) "__getitem__"=pure (some (.builtin id))/\s.TypeIs v T/\wpAny (model X.prog X.w) X.A (getItem v (.ref sl)) (EP X pins σ Q) X.xe s
def Jv(r:V->Option Int->Option Int->Hp->VK->Prop)(te:TE)(tl th:TO):TE:=fun σ H Q=>te σ H fun x H1=>tl σ H1 fun l H2=>th σ H2 fun u H3=>r x l u H3 Q
def dC{r:V->Option Int->Option Int->Hp->VK->Prop}(hr:HU X r)(he:PE X e te)(hl:PO X lo tl)(hu:PO X hi th):PE X (.Subscript e (.Slice lo hi none p2) pos) (Jv r te tl th):=by
 walk_at "p";refine Subscript_ (bH (he pins s σ H _ I h) fun v s1 hZZ=>?_);walk_at "I";refine wpAny_Slice (bH (hl pins s1 σ H1 _ I1 q1) fun vl s2⟨l,H2,I2,pl,q2⟩=>bH (hu pins s2 σ H2 _ I2 q2) fun vu s3 hZZ=>?_);obtain⟨u,H3,I3,pu,q3⟩:=hZZ;rw[evalPart_none];refine c_ ?_;have I4:NX X pins σ H3 {s3 with heap:=s3.heap.push {cls:=.type "slice",data:=.fields #[vl,vu,.none]} }:=I3.kept (t':=s3.toks) fun b ob q=>JQ _ q;obtain⟨T,id,hT,ht,hg⟩:=hr pins {s3 with heap:=s3.heap.push {cls:=.type "slice",data:=.fields #[vl,vu,.none]} } σ H3 x v vl vu l u s3.heap.objs.size Q I4 r1 (Heap.IsSliceOf.new ..) pl pu q3;show wpAny (model X.prog X.w) X.A (subscriptTail e (.Slice lo hi none p2) v (.ref s3.heap.objs.size)) (EP X pins σ Q) X.xe {s3 with heap:=s3.heap.push {cls:=.type "slice",data:=.fields #[vl,vu,.none]} };exact tail_any (ops:=[.ref s3.heap.objs.size,v]) ht hT hg (by with_unfolding_all rfl)
def km(xs:TQ)(lo hi:Option Int):TQ:=(xs.drop (HT.sIx xs.length 0 lo)).take (HT.sIx xs.length xs.length hi-HT.sIx xs.length 0 lo)
def kg(xs:TQ)(lo hi:Option Int):(km xs lo hi).length<=xs.length:=by
 unfold km;rw[J9,KU];lia
inductive GA(K:ZF)(x:V)(lo:Option Int)(hi:Option Int)(H:Hp)(Q:VK):Prop
 |mk(a xs:_):x=.ref a->NY K H a xs->¬(HT.sIx xs.length 0 lo=0/\HT.sIx xs.length xs.length hi=xs.length)->(∀p,H p=none->Q (.ref p) (aI H p (.tup (km xs lo hi))))->GA K x lo hi H Q
def D6:HU X (GA X.K):=by
 intro pins s σ H x v vl vu lo hi sl Q I rx hs pl pu h;obtain⟨a,xs,rfl,hx,hw,q⟩:=h;cases rx;obtain⟨f',r,ht,hz⟩:=I.tuple hx;have LS:f'.toArray.size=xs.length:=by rw[Ks];exact r.length.symm
 refine⟨"tuple",_,PyProof.Rows.slot_tuple_getitem.lookup,ht.typeIs,?_⟩;refine HT.getItem_tuple_cut ht hs pl pu (by rw[LS];exact hw) ?_ (by rw[LS];exact hz);rw[LS];refine⟨.ref s.heap.objs.size,_,I.laid (t':=s.toks) (o:=.tup (km xs lo hi)) (fun b ob q=>JQ _ q) (J2 _) ?_,rfl,q _ (I.hok.fresh (J2 _))⟩;exact⟨Kx (kg xs lo hi) hz,_,(r.drop (HT.sIx xs.length 0 lo)).take (HT.sIx xs.length xs.length hi-HT.sIx xs.length 0 lo),Pm.new _ _⟩
inductive Dk(K:ZF)(x:V)(y:V)(H:Hp)(Q:VK):Prop
 |mk(a b xs ys:_):x=.ref a->y=.ref b->NY K H a xs->NY K H b ys->xs≠[]->xs.length+ys.length<=sizeLine->(ys=[]->Q (.ref a) H)->(ys≠[]->∀p,H p=none->Q (.ref p) (aI H p (.tup (xs++ys))))->Dk K x y H Q
def N2.nil_iff{xs:TQ}{us:List Tr}(r:N2 xs us):us=[]↔xs=[]:=by
 cases r with
 |nil=>simp
 |cons _ _=>simp
def Bx:fv X (binaryOp .Add) (Dk X.K):=by
 walk_at "t";obtain⟨a,b,xs,ys,rfl,rfl,ha,hb,hx,hz,q1,q2⟩:=h;cases rx;cases ry;obtain⟨f',r1,p1,_⟩:=I.tuple ha;obtain⟨VC,r2,p2,_⟩:=I.tuple hb;refine HT.cat_tup p1 p2 (fun z=>hx (r1.nil_iff.mp z)) (fun z=>⟨.ref a,H,I,rfl,q1 (r2.nil_iff.mp z)⟩) (fun z=>?_) (by rw[<-r1.length,<-r2.length];exact hz);refine⟨.ref s.heap.objs.size,_,I.laid (t':=s.toks) (o:=.tup (xs++ys)) (fun b ob q=>JQ _ q) (J2 _) ?_,rfl,q2 (fun w=>z (r2.nil_iff.mpr w)) _ (I.hok.fresh (J2 _))⟩;exact⟨by rw[JU];exact hz,_,r1.append r2,Pm.new _ _⟩
end
def D7(n:Nat)(i:Int):Option Nat:=if 0<=i then(if i<n then some i.toNat else none)else if -(n:Int)<=i then some (i+n).toNat else none
def qJ{α:Type}(xs:List α)(i:Int):Option α:=(D7 xs.length i).bind fun j=>xs[j]?
variable{j:Nat}{i:Int}{n:Nat}
def uW(h:D7 n i=some j):seqIndex? i n=some j/\j<n/\-(n:Int)<=i/\i<n:=by
 unfold D7 at h;by_cases h0:0<=i
 ·rw[g_ h0]at h;by_cases h1:i<n
  ·rw[g_ h1]at h;have e:i.toNat=j:=Kw h;exact⟨by rw[seqIndex_of h0 h1,e],zo,zo,h1⟩
  ·rw[f_ h1]at h;cases h
 ·rw[f_ h0]at h;by_cases h1:-(n:Int)<=i
  ·rw[g_ h1]at h;have e:(i+n).toNat=j:=Kw h;exact⟨by rw[seqIndex_neg zo h1,e],zo,h1,zo⟩
  ·rw[f_ h1]at h;cases h
def oK{α:Type}{xs:List α}{v:α}(h:qJ xs i=some v):∃j,seqIndex? i xs.length=some j/\xs[j]?=some v/\j<xs.length/\-(xs.length:Int)<=i/\i<xs.length:=by
 unfold qJ at h;cases e:D7 xs.length i with
 |none=>rw[e]at h;cases h
 |some j=>
  rw[e]at h;obtain⟨h1,h2,h3,h4⟩:=uW e;exact⟨j,h1,h,h2,h3,h4⟩
def aU{α:Type}{xs:List α}{v:α}(h:xs[j]?=some v):qJ xs (j:Int)=some v:=by
 have hj:j<xs.length:=(JV.mp h).1;have e:D7 xs.length (j:Int)=some j:=by
  unfold D7;rw[g_ zo,g_ zo];simp
 unfold qJ;rw[e];exact h
def By(b:Expr):Prop:=∀o i,subscripted b false o i=operate [o,i] (getItem o i)
def GB(X:Cx)(r:R2):Prop:=
 ∀(value T0:Expr)(pins:List (Ts×Obj))(s:Tu)(σ:St)(H:Hp)(x y:V)(v u:Tr)(Q:VK),NX X pins σ H s->N3 x v->N3 y u->r x y H Q->
  subscripted T0 false v u=operate [v,u] (getItem v u)->wpAny (model X.prog X.w) X.A (subscriptTail value T0 v u) (EP X pins σ Q) X.xe s
def F9(X:Cx)(id:String)(r:V->TQ->Hp->VK->Prop):Prop:=
 ∀(pins:List (Ts×Obj))(s:Tu)(σ:St)(H:Hp)(x:V)(xs:TQ)(v:Tr)(us:List Tr)(Q:VK),NX X pins σ H s->N3 x v->N2 xs us->r x xs H Q->
  wpAny (model X.prog X.w) X.A (call (.builtin id) (v::us)) (EP X pins σ Q) X.xe s
section
variable{X:Cx}{a b:Expr}{ta tb:TE}{pos:Pos}
def ax{r:R2}(hr:GB X r)(ha:PE X a ta)(hb:PE X b tb)(hs:By b:=by intro _ _;rfl):PE X (.Subscript a b pos) (HS r ta tb):=by
 walk_at "p";exact Subscript_ (D3 ha hb I h fun v u s2 x y H2 I2 rx ry q=>hr a b pins s2 σ H2 x y v u Q I2 rx ry q (hs _ _))
inductive GC(K:ZF)(x:V)(y:V)(H:Hp)(Q:VK):Prop
 |mk(p xs i v:_):x=.ref p->y=.int i->N0 K H p xs->qJ xs i=some v->Q v H->GC K x y H Q
inductive D8(K:ZF)(x:V)(y:V)(H:Hp)(Q:VK):Prop
 |mk(p xs i v:_):x=.ref p->y=.int i->NY K H p xs->qJ xs i=some v->Q v H->D8 K x y H Q
inductive GD(x:V)(y:V)(H:Hp)(Q:VK):Prop
 |mk(z i c:_):x=.str z->y=.int i->z.length<=sizeLine->qJ z.cps.toList i=some c->Q (.str ⟨#[c]⟩) H->GD x y H Q
def aP:GB X (GC X.K):=by
 intro value T0 pins s σ H x y v u Q I rx ry h hs;obtain⟨p,xs,i,z,rfl,rfl,hq,he,q⟩:=h;cases rx;obtain⟨t,rfl⟩:=ry;obtain⟨f',r,pl,hz⟩:=I.list hq;obtain⟨j,h1,h2,h3,h4,h5⟩:=oK he;obtain⟨w,ew,VP⟩:=r.get h2;have hl:=r.length;have hn:=jD;have F':EP X pins σ Q w s:=⟨z,H,I,VP,q⟩;by_cases h0:0<=i
 ·have hj:i.toNat=j:=by
   rw[seqIndex_of h0 h5]at h1;exact Kw h1
  exact item_listR pl.isList h0 zo (by rw[hj];simpa using ew) F' hs
 ·have hj:(i+(f'.toArray.size:Int)).toNat=j:=by
   rw[seqIndex_neg zo h4]at h1;rw[Ks,<-hl];exact Kw h1
  exact subscriptTail_builtinR (x:=w) pl.isList.typeIs slot_list_getitem.lookup
   (wpAny_getItem_list_neg (Q:=fun r s'=>r=w/\EP X pins σ Q r s') pl.isList zo (by rw[Ks]<;>lia) zo (by rw[hj];simpa using ew) ⟨rfl,F'⟩) hs
def aJ:GB X (D8 X.K):=by
 intro value T0 pins s σ H x y v u Q I rx ry h hs;obtain⟨p,xs,i,z,rfl,rfl,hq,he,q⟩:=h;cases rx;obtain⟨t,rfl⟩:=ry;obtain⟨f',r,pl,hz⟩:=I.tuple hq;obtain⟨j,h1,h2,h3,h4,h5⟩:=oK he;obtain⟨w,ew,VP⟩:=r.get h2;have hl:=r.length;have hn:=jD;have F':EP X pins σ Q w s:=⟨z,H,I,VP,q⟩;exact subscriptTail_builtinR (x:=w) pl.typeIs slot_tuple_getitem.lookup
  (getItem_tuple (j:=j) (Q:=fun r s'=>r=w/\EP X pins σ Q r s') pl zo zo (by rw[Ks,<-hl];exact h1) (by simpa using ew) ⟨rfl,F'⟩) hs
def jF:GB X GD:=by
 intro value T0 pins s σ H x y v u Q I rx ry h hs;obtain⟨z,i,c,rfl,rfl,hz,he,q⟩:=h;obtain⟨t,rfl⟩:=rx;obtain⟨t',rfl⟩:=ry;obtain⟨j,h1,h2,h3,h4,h5⟩:=oK he;have hl:z.cps.toList.length=z.length:=by simp[Str.length]
 rw[hl]at h1 h4 h5;have hn:=jD;exact tail_any (Rl s z t) slot_str_getitem.lookup (getItem_str (c:=c) (by
  have e1:decide (i < -(2^63:Int))=false:=d_ zo;have e2:decide (i ≥ 2^63)=false:=d_ zo;rw[e1,e2,Bool.or_false]) (by rw[h1];simpa using h2) ⟨.str ⟨#[c]⟩,H,I.tok _,⟨_,rfl⟩,q⟩) hs
def sJ(f':List Tr)(n j:Nat)(u:Tr):Obj.mapSeq (·.setIfInBounds j u) {cls:=.type "list",data:=.seq f'.toArray n}={cls:=.type "list",data:=.seq (f'.set j u).toArray n}:=by
 simp[Obj.mapSeq]
variable{xs:TQ}{p:Ts}{s:Tu}{H:Hp}{σ:St}{pins:List (Ts×Obj)}
def NX.lst(I:NX X pins σ H s)(h:H p=some (.lst xs)):
  ∃(f':List Tr)(n:Nat),N2 xs f'/\s.heap.get? p=some {cls:=.type "list",data:=.seq f'.toArray n}/\xs.length<=sizeLine:=by
 obtain⟨z,f',n,r,e⟩:=I.hok p _ h;exact⟨f',n,r,e,z⟩
def NX.lstUpd{xs ys:TQ}{f' its':List Tr}{n n':Nat}{f:Obj->Obj}(I:NX X pins σ H s)(h:H p=some (.lst xs))
  (ho:s.heap.get? p=some {cls:=.type "list",data:=.seq f'.toArray n}) (hf:f {cls:=.type "list",data:=.seq f'.toArray n}={cls:=.type "list",data:=.seq its'.toArray n'}) (r:N2 ys its') (hz:ys.length<=sizeLine) (t:Nat) :
  NX X pins σ (aI H p (.lst ys)) {s with heap:=s.heap.update p f,toks:=t}:=by
 have e:(s.heap.update p f).get? p=some {cls:=.type "list",data:=.seq its'.toArray n'}:=by
  rw[i_ f ho (by rw[hf]<;>rfl),hf]
 refine I.write (x:=p) (e:=p) (by rw[h];trivial) (.inl rfl) (fun b u hb q=>(B_ _ _ (K_ hb)).trans q) ⟨_,e⟩ ?_;exact⟨hz,its',n',r,e⟩
inductive Dl(o:V)(i:V)(v:V)(H:Hp)(Q:Hp->Prop):Prop
 |mk(p xs k j:_):o=.ref p->i=.int k->H p=some (.lst xs)->D7 xs.length k=some j->Q (aI H p (.lst (xs.set j v)))->Dl o i v H Q
def qK:Gm X Dl:=by
 intro pins s σ H o i v ov iv u Q I ro ri rv h;obtain⟨p,xs,k,j,rfl,rfl,hp,hj,q⟩:=h;cases ro;obtain⟨t,rfl⟩:=ri;obtain⟨f',n,r,ho,hz⟩:=I.lst hp;obtain⟨h1,h2,h3,h4⟩:=uW hj;have hl:=r.length;have hn:=jD;have I':NX X pins σ (aI H p (.lst (xs.set j v))) {s with heap:=s.heap.update p (Obj.mapSeq (·.setIfInBounds j u))}:=
  I.lstUpd hp ho (sJ f' n j u) (r.set rv j) (by rw[List.length_set];exact hz) s.toks
 by_cases h0:0<=k
 ·have hk:k.toNat=j:=by
   rw[seqIndex_of h0 h4]at h1;exact Kw h1
  exact PySem.W.ki_setAt ho h0 zo (by rw[Ks,<-hl];exact h4) (by rw[hk];exact⟨_,I',q⟩)
 ·have hk:(k+(f'.toArray.size:Int)).toNat=j:=by
   rw[seqIndex_neg zo h3]at h1;rw[Ks,<-hl];exact Kw h1
  exact PySem.W.ki_setBack ho zo (by rw[Ks,<-hl];exact h3) zo (by rw[hk];exact⟨_,I',q⟩)
def oN(lo hi:Option Int)(n:Nat):(sliceBounds lo hi none n).1=((HT.sIx n 0 lo:Nat):Int)/\(sliceBounds lo hi none n).2.1=((HT.sIx n n hi:Nat):Int)/\(sliceBounds lo hi none n).2.2=1:=by
 refine⟨?_,?_,rfl⟩
 ·cases lo with
  |none=>simp[sliceBounds,HT.sIx]
  |some i=>
   simp only[sliceBounds,HT.sIx,Option.getD_none,show(1:Int)>0 by decide,O_];by_cases h:i<0
   ·simp only[h,O_]<;>lia
   ·simp only[h,Pi]<;>lia
 ·cases hi with
  |none=>simp[sliceBounds,HT.sIx]
  |some i=>
   simp only[sliceBounds,HT.sIx,Option.getD_none,show(1:Int)>0 by decide,O_];by_cases h:i<0
   ·simp only[h,O_]<;>lia
   ·simp only[h,Pi]<;>lia
def m7(f':List Tr)(lo hi:Option Int):slicePick f'.toArray lo hi none=((f'.drop (HT.sIx f'.length 0 lo)).take (HT.sIx f'.length f'.length hi-HT.sIx f'.length 0 lo)).toArray:=by
 obtain⟨h1,h2,h3⟩:=oN lo hi f'.toArray.size;unfold slicePick;rw[h1,h2,h3];simp only[sliceRange_one,pick_run,Ks]<;>rfl
inductive GE(K:ZF)(x:V)(lo:Option Int)(hi:Option Int)(H:Hp)(Q:VK):Prop
 |mk(a xs:_):x=.ref a->N0 K H a xs->(∀p,H p=none->Q (.ref p) (aI H p (.lst (km xs lo hi))))->GE K x lo hi H Q
def oO:HU X (GE X.K):=by
 intro pins s σ H x v vl vu lo hi sl Q I rx hs pl pu h;obtain⟨a,xs,rfl,hx,q⟩:=h;cases rx;obtain⟨f',r,ht,hz⟩:=I.list hx;have LS:=r.length;refine⟨"list",_,slot_list_getitem.lookup,ht.isList.typeIs,?_⟩;refine wpAny_getItem_list_slice ht.isList hs pl pu .none (by simp) ?_ (by rw[Ks]<;>lia);rw[m7,<-LS];refine⟨.ref s.heap.objs.size,_,I.laid (t':=s.toks) (o:=.lst (km xs lo hi)) (fun b ob q=>JQ _ q) (J2 _) ?_,rfl,q _ (I.hok.fresh (J2 _))⟩;exact⟨Kx (kg xs lo hi) hz,_,0,(r.drop (HT.sIx xs.length 0 lo)).take (HT.sIx xs.length xs.length hi-HT.sIx xs.length 0 lo),Ki _ rfl⟩
def dZ:V->Bool
 |.non=>true
 |.bl _=>true
 |.int _=>true
 |.str _=>true
 |_=>false
def wC:V->V->Bool
 |.non,.non=>true
 |.bl a,.bl b=>a==b
 |.bl a,.int b=>(if a then 1 else 0)==b
 |.int a,.bl b=>a==(if b then 1 else 0)
 |.int a,.int b=>a==b
 |.str a,.str b=>a==b
 |_,_=>false
variable{u v:Tr}{y x:V}{A:Tz}
def D9(ry:N3 y u)(rx:N3 x v)(fy:dZ y=true)(fx:dZ x=true):SeqAt.EqAt A s u v (wC y x):=by
 cases y with
 |non=>
  cases ry;cases x with
  |non=>cases rx;exact SeqAt.EqAt.same _
  |bl b=>cases rx;exact SeqAt.EqAt.none_bool b
  |int b=>obtain⟨t,rfl⟩:=rx;exact SeqAt.EqAt.none_int b t
  |str b=>obtain⟨t,rfl⟩:=rx;exact SeqAt.EqAt.none_str b t
  |_=>exact absurd (show false=true from fx) Kh
 |bl a=>
  cases ry;cases x with
  |non=>cases rx;exact SeqAt.EqAt.bool_none a
  |bl b=>cases rx;exact SeqAt.EqAt.bool_bool a b
  |int b=>obtain⟨t,rfl⟩:=rx;exact SeqAt.EqAt.bool_int a b t
  |str b=>obtain⟨t,rfl⟩:=rx;exact SeqAt.EqAt.bool_str a b t
  |_=>exact absurd (show false=true from fx) Kh
 |int a=>
  obtain⟨t',rfl⟩:=ry;cases x with
  |non=>cases rx;exact SeqAt.EqAt.int_none a t'
  |bl b=>cases rx;exact SeqAt.EqAt.int_bool a t' b
  |int b=>obtain⟨t,rfl⟩:=rx;exact SeqAt.EqAt.int_int a t' b t
  |str b=>obtain⟨t,rfl⟩:=rx;exact SeqAt.EqAt.int_str a t' b t
  |_=>exact absurd (show false=true from fx) Kh
 |str a=>
  obtain⟨t',rfl⟩:=ry;cases x with
  |non=>cases rx;exact SeqAt.EqAt.str_none a t'
  |bl b=>cases rx;exact SeqAt.EqAt.str_bool a t' b
  |int b=>obtain⟨t,rfl⟩:=rx;exact SeqAt.EqAt.str_int a t' b t
  |str b=>obtain⟨t,rfl⟩:=rx;exact SeqAt.EqAt.str_str a t' b t
  |_=>exact absurd (show false=true from fx) Kh
 |_=>exact absurd (show false=true from fy) Kh
def qM(x:V)(u:Tr):Bool:=match u with
 |.none=>wC .non x
 |.bool b=>wC (.bl b) x
 |.int i _=>wC (.int i) x
 |.str z _=>wC (.str z) x
 |_=>false
def sK(r:N3 y u)(f:dZ y=true):qM x u=wC y x:=by
 cases y with
 |non=>cases r;rfl
 |bl b=>cases r;rfl
 |int i=>obtain⟨t,rfl⟩:=r;rfl
 |str z=>obtain⟨t,rfl⟩:=r;rfl
 |_=>exact absurd (show false=true from f) Kh
def i8:∀{xs:TQ}{us:List Tr},N2 xs us->xs.all dZ=true->us.any (qM x)=xs.any fun y=>wC y x
 |_,_,.nil,_=>rfl
 |y::xs,u::us,.cons r t,f=>by
  rw[List.all_cons,KQ]at f;rw[Lq,Lq,sK r f.1,i8 t f.2]
def fE(rx:N3 x v)(fx:dZ x=true):∀{xs:TQ}{us:List Tr},N2 xs us->xs.all dZ=true->∀u∈us,SeqAt.EqAt A s u v (qM x u)
 |_,_,.nil,_=>fun u hu=>by cases hu
 |y::xs,u::us,.cons r t,f=>fun u' hu=>by
  rw[List.all_cons,KQ]at f;rcases J0.mp hu with rfl|hu
  ·rw[sK r f.1];exact D9 r rx f.1 fx
  ·exact fE rx fx t f.2 u' hu
def ky(x:V)(xs:TQ):Bool:=xs.any fun y=>wC y x
inductive HV(K:ZF)(neg:Bool)(x:V)(y:V)(H:Hp)(Q:VK):Prop
 |mk(p xs:_):y=.ref p->(N0 K H p xs\/NY K H p xs)->dZ x=true->xs.all dZ=true->Q (.bl (if neg then !ky x xs else ky x xs)) H->HV K neg x y H Q
def eI:fv X (compareOp .In) (HV X.K false):=by
 walk_at "t";obtain⟨p,xs,rfl,hq,fx,fs,q⟩:=h;cases ry;rcases hq with hq|hq
 ·obtain⟨f',r,pl,hz⟩:=I.list hq;refine SeqAt.in_listAt (qM x) pl.isList (fun w hw=>fE rx fx r fs w (by simpa using hw)) ⟨.bl _,H,I,rfl,?_⟩;rw[show f'.toArray.any (qM x)=f'.any (qM x)by simp,i8 r fs];exact q
 ·obtain⟨f',r,pl,hz⟩:=I.tuple hq;refine SeqAt.in_tupleAt (qM x) pl (fun w hw=>fE rx fx r fs w (by simpa using hw)) ⟨.bl _,H,I,rfl,?_⟩;rw[show f'.toArray.any (qM x)=f'.any (qM x)by simp,i8 r fs];exact q
def eo:fv X (compareOp .NotIn) (HV X.K true):=by
 walk_at "t";obtain⟨p,xs,rfl,hq,fx,fs,q⟩:=h;cases ry;rcases hq with hq|hq
 ·obtain⟨f',r,pl,hz⟩:=I.list hq;refine SeqAt.notIn_listAt (qM x) pl.isList (fun w hw=>fE rx fx r fs w (by simpa using hw)) ⟨.bl _,H,I,rfl,?_⟩;rw[show f'.toArray.any (qM x)=f'.any (qM x)by simp,i8 r fs];exact q
 ·obtain⟨f',r,pl,hz⟩:=I.tuple hq;refine SeqAt.notIn_tupleAt (qM x) pl (fun w hw=>fE rx fx r fs w (by simpa using hw)) ⟨.bl _,H,I,rfl,?_⟩;rw[show f'.toArray.any (qM x)=f'.any (qM x)by simp,i8 r fs];exact q
def aY:dJ X (.builtin "len") (fun xs H Q=>∃p ys,xs=[.ref p]/\(N0 X.K H p ys\/NY X.K H p ys)/\Q (.int ys.length) H):=by
 walk_at "J";obtain⟨p,ys,rfl,hq,q⟩:=h;obtain⟨u,rfl,rx⟩:=i5 r;cases rx;have hn:=jD;rcases hq with hq|hq
 ·obtain⟨f',r',pl,hz⟩:=I.list hq;have LS:=r'.length;exact Calls.call_len_list pl.isList (by simp only[Ks]<;>lia) ⟨.int ys.length,H,I.tok _,⟨s.toks+1,by rw[Ks,LS]⟩,q⟩
 ·obtain⟨f',r',pl,hz⟩:=I.tuple hq;have LS:=r'.length;exact len_tuple pl (by simp only[Ks]<;>lia) ⟨.int ys.length,H,I.tok _,⟨s.toks+1,by rw[Ks,LS]⟩,q⟩
def bN:dJ X (.builtin "len") (fun xs H Q=>∃z,xs=[.str z]/\z.length<=sizeLine/\Q (.int z.length) H):=by
 walk_at "J";obtain⟨z,rfl,hz,q⟩:=h;obtain⟨u,rfl,t,rfl⟩:=i5 r;have hn:=jD;exact len_str zo ⟨.int z.length,H,I.tok _,⟨_,rfl⟩,q⟩
def bh:dJ X (.type "tuple") (fun xs H Q=>∃p ys,xs=[.ref p]/\((N0 X.K H p ys/\∀l,H l=none->Q (.ref l) (aI H l (.tup ys)))\/(NY X.K H p ys/\Q (.ref p) H))):=by
 walk_at "J";obtain⟨p,ys,rfl,h⟩:=h;obtain⟨u,rfl,rx⟩:=i5 r;cases rx;rcases h with⟨hq,q⟩|⟨hq,q⟩
 ·obtain⟨f',r',pl,hz⟩:=I.list hq;have LS:=r'.length;refine call_tuple_list pl.isList (fun h' kp=>?_) (by simp only[Ks]<;>lia);have I1:NX X pins σ H {s with heap:=h'}:=I.kept (t':=s.toks) kp;have I2:NX X pins σ (aI H h'.objs.size (.tup ys)) {s with heap:=h'.push {cls:=.type "tuple",data:=.seq f'.toArray} }:=
   I1.laid (t':=s.toks) (fun b o e=>JQ _ e) (J2 _) (show N7 X.prog X.w _ _ _ (.tup ys)from⟨hz,f',r',Pm.new _ _⟩)
  exact⟨.ref h'.objs.size,_,I2,rfl,q _ (I1.hok.fresh (J2 _))⟩
 ·obtain⟨f',r',pl,hz⟩:=I.tuple hq;exact call_tuple_same pl ⟨.ref p,H,I,rfl,q⟩
def ID(K:ZF)(T:String)(x:V)(H:Hp):Prop:=match x with
 |.str _=>T="str"
 |.int _=>T="int"
 |.ref p=>(T="list"/\∃xs,N0 K H p xs)\/(T="tuple"/\∃o,K.lookup p=some o/\o.cls=.type "tuple"/\o.dict=none) ∨
   (T="dict"/\((∃kvs,H p=some (.dK kvs))\/∃kvs,H p=some (.dT kvs)))\/(T="set"/\∃S n,H p=some (.set S n))
 |_=>False
def yj{T:String}(I:NX X pins σ H s)(r:N3 x v)(ty:ID X.K T x H):
  s.TypeIs v T/\∀a,v=.ref a->∃ob,s.heap.get? a=some ob/\ob.dict=none:=by
 cases x with
 |str z=>
  obtain⟨t,rfl⟩:=r;cases(show T="str" from ty);exact⟨Rl s z t,fun _ e=>nomatch e⟩
 |int i=>
  obtain⟨t,rfl⟩:=r;cases(show T="int" from ty);exact⟨typeIs_int s i t,fun _ e=>nomatch e⟩
 |ref p=>
  cases r;rcases ty with⟨rfl,xs,hq⟩|⟨rfl,o,hk,hc,hd⟩|⟨rfl,hk⟩|⟨rfl,S,n,hk⟩
  ·obtain⟨f',_,pl,_⟩:=I.list hq;refine⟨pl.isList.typeIs,fun a e=>?_⟩;cases e;obtain⟨o,n,e,c,hd,_⟩:=pl;exact⟨o,e,hd⟩
  ·refine⟨⟨o,I.kIn p o hk,hc⟩,fun a e=>?_⟩;cases e;exact⟨o,I.kIn _ o hk,hd⟩
  ·have z:∃o,s.heap.get? p=some o/\o.ExactDict:=by
    rcases hk with⟨kvs,hk⟩|⟨kvs,hk⟩
    ·obtain⟨_,_,_,_,o,_,_,e,ex,_⟩:=I.hok p _ hk;exact⟨o,e,ex⟩
    ·obtain⟨_,_,_,_,o,_,_,e,ex,_⟩:=I.hok p _ hk;exact⟨o,e,ex⟩
   obtain⟨o,e,ex⟩:=z;refine⟨⟨o,e,ex.1⟩,fun a e2=>?_⟩;cases e2;exact⟨o,e,ex.2.1⟩
  ·obtain⟨o,_,_,_,e,ex,_⟩:=I.hok p _ hk;refine⟨⟨o,e,ex.1⟩,fun a e2=>?_⟩;cases e2;exact⟨o,e,ex.2.1⟩
 |_=>exact False.elim ty
def IE(K:ZF)(T:String)(r:V->TQ->Hp->VK->Prop)(to:TE):TE:=fun σ H Q=>to σ H fun x H1=>ID K T x H1/\r x [] H1 Q
def JF(K:ZF)(T:String)(r:V->TQ->Hp->VK->Prop)(to:TE)(t:TA):TE:=fun σ H Q=>to σ H fun x H1=>ID K T x H1/\t σ H1 fun xs H2=>r x xs H2 Q
variable{o e:Expr}{es:List Expr}{to:TE}{t:TA}{name:Str}{B' S':Pos}{T id:String}{r:V->TQ->Hp->VK->Prop}
def Ea(pa:PlainAttrs T)(slot:Slot T name id)(Xo:typeOf (.builtin id)=pure (.type "method_descriptor"))(hm:F9 X id r)(ho:PE X o to)
  (U1:attributeBase o name X.env (eval o X.env)=eval o X.env:=by rfl) (UZ:(B'.endLine==S'.line)=true:=by rfl):PE X (.Call (.Attribute o name B') [] [] S') (IE X.K T r to):=by
 walk_at "p";refine wpAny_Call_method0_late U1 UZ (bH (ho pins s σ H _ I h) fun v s1 hZZ=>?_);obtain⟨x,H1,I1,r1,ty,q1⟩:=hZZ;obtain⟨h1,h2⟩:=yj I1 r1 ty;exact⟨T,id,pa,slot,Xo,h1,h2,LD rfl (PySem.evalArgs_none (hm pins s1 σ H1 x [] v [] Q I1 r1 .nil q1))⟩
def cu(pa:PlainAttrs T)(slot:Slot T name id)(Xo:typeOf (.builtin id)=pure (.type "method_descriptor"))(hm:F9 X id r)(ho:PE X o to)(ha:PA X (e::es) t)
  (U1:attributeBase o name X.env (eval o X.env)=eval o X.env:=by rfl)
  (XT:((backTo S' (starEach (e::es) X.env)).all (fun x=>!x.1)&&(backToKw S' (keywordEach [] X.env)).all (fun x=>x.1.isSome)
   && decide ((e::es).length+([]:List Keyword).length+(if([]:List Keyword).isEmpty then 0 else 1)<30))=true:=by rfl)
  (UZ:(B'.endLine==S'.line)=true:=by rfl) (hs:starEach (e::es) X.env=(false,eval e X.env)::starEach es X.env:=by rfl) (Vf:(backTo S' (starEach es X.env)).any (·.1)=false:=by rfl) :
  PE X (.Call (.Attribute o name B') (e::es) [] S') (JF X.K T r to t):=by
 walk_at "p";refine wpAny_Call_method_late U1 XT UZ rfl (bH (ho pins s σ H _ I h) fun v s1 hZZ=>?_);obtain⟨x,H1,I1,r1,ty,q1⟩:=hZZ;obtain⟨h1,h2⟩:=yj I1 r1 ty;refine⟨T,id,pa,slot,Xo,h1,h2,?_⟩;have hA:=ha S' pins s1 σ H1 _ I1 q1;rw[hs]at hA⊢;refine LD (by show(false||(backTo S' (starEach es X.env)).any (·.1))=false;rw[Vf]<;>rfl) (Calls.evalArgs_plain ?_);exact bH hA fun us s2⟨vs,H2,I2,r2,q2⟩=>hm pins s2 σ H2 x vs v us Q I2 r1 r2 q2
end
def JG(X:Cx)(id:String)(r:V->TQ->Hp->VK->Prop):Prop:=
 ∀(pins:List (Ts×Obj))(s:Tu)(σ:St)(H:Hp)(x:V)(xs:TQ)(v:Tr)(us:List Tr)(Q:VK),NX X pins σ H s->N3 x v->N2 xs us->r x xs H Q->
  wpAny (model X.prog X.w) X.A (call (.builtin id) (v::us)) (EP X pins σ Q) X.xe s
def N2.one:∀{x:V}{us:List Tr},N2 [x] us->∃u,us=[u]/\N3 x u
 |_,_,.cons r .nil=>⟨_,rfl,r⟩
section
variable{X:Cx}{pins:List (Ts×Obj)}{σ:St}{H:Hp}{s:Tu}{l b:Ts}{xs ys zs:TQ}
def NX.lset{f' its':List Tr}{n:Nat}{f:Array Tr->Array Tr}{t':Nat}(I:NX X pins σ H s)(hH:H l=some (.lst xs))
  (e:s.heap.get? l=some {cls:=.type "list",data:=.seq f'.toArray n}) (hf:f f'.toArray=its'.toArray) (hv:N2 ys its') (hz:ys.length<=sizeLine) :
  NX X pins σ (aI H l (.lst ys)) {s with heap:=s.heap.update l (Obj.mapSeq f),toks:=t'}:=by
 have q:=PySem.IsL.update e f;rw[hf]at q;refine I.write (x:=l) (e:=l) (by rw[hH];exact trivial) (.inl rfl) (fun b' u hb hu=>(B_ s.heap (Obj.mapSeq f) (K_ hb)).trans hu) ⟨_,q⟩ ?_;exact⟨hz,its',_,hv,q⟩
def NX.lnew{f':List Tr}{t':Nat}(I:NX X pins σ H s)(hv:N2 ys f')(hz:ys.length<=sizeLine):
  NX X pins σ (aI H s.heap.objs.size (.lst ys)) {s with heap:=s.heap.push {cls:=.type "list",data:=.seq f'.toArray},toks:=t'}:=
 I.laid (fun _ _ q=>JQ _ q) (J2 _) ⟨hz,f',0,hv,Ki _ rfl⟩
def NX.fresh(I:NX X pins σ H s):H s.heap.objs.size=none:=I.hok.fresh (J2 _)
def NX.lstM(I:NX X pins σ H s)(hH:H l=some (.lst xs)):xs.length<=sizeLine/\∃(f':List Tr)(n:Nat),N2 xs f'/\xs.length=f'.length/\s.heap.get? l=some {cls:=.type "list",data:=.seq f'.toArray n}:=by
 obtain⟨z,f',n,r,e⟩:=I.hok l _ hH;exact⟨z,f',n,r,r.length,e⟩
end
section
variable{X:Cx}
inductive uX(x:V)(vs:TQ)(H:Hp)(Q:VK):Prop
 |mk(l xs y:_):x=.ref l->vs=[y]->H l=some (.lst xs)->xs.length<sizeLine->Q .non (aI H l (.lst (xs++[y])))->uX x vs H Q
def bz:JG X "list.append" uX:=by
 intro pins s σ H x vs v us Q I rx rv h;obtain⟨l,xs,y,rfl,rfl,hH,hz,q⟩:=h;cases rx;obtain⟨u,rfl,ru⟩:=rv.one;obtain⟨z,f',n,r,hl,e⟩:=I.lstM hH;refine call_meets F.slot_list_append ⟨_,e,rfl⟩ F.entry_list_append (F.args_list_append_2 _ _) (PySem.list_append l f'.toArray n u (by rw[Ks];lia)) ⟨e,?_⟩;refine⟨.non,_,I.lset (its':=f'++[u]) hH e (by simp) (r.append (.cons ru .nil)) ?_,rfl,q⟩;rw[JU,List.length_singleton];lia
inductive Bz(x:V)(y:V)(H:Hp)(Q:VK):Prop
 |mk(l b xs zs:_):x=.ref l->y=.ref b->H l=some (.lst xs)->H b=some (.lst zs)->xs.length+zs.length<=sizeLine->(∀p,H p=none->Q (.ref p) (aI H p (.lst (xs++zs))))->Bz x y H Q
def dL:fv X (binaryOp .Add) Bz:=by
 walk_at "t";obtain⟨l,b,xs,zs,rfl,rfl,hH,hB,hz,q⟩:=h;cases rx;cases ry;obtain⟨z,f',n,r,hl,e⟩:=I.lstM hH;obtain⟨z2,VC,n2,r2,Y2,e2⟩:=I.lstM hB;refine PySem.P.add_list e e2 ?_ (by rw[Ks,Ks];lia);have ea:f'.toArray++VC.toArray=(f'++VC).toArray:=by simp
 rw[ea];exact⟨.ref _,_,I.lnew (t':=s.toks) (r.append r2) (by rw[JU];lia),rfl,q _ I.fresh⟩
end
end L2
namespace Att
open PySem PySem.W PySem.Calls PyProof.Rows
variable{h:Heap}{P:Params}
def O8:∀(ns:List Int)(vs:List Tr),WellAll P h vs (ns.map WData.int)->IntsAre vs ns:=by
 intro ns;induction ns with
 |nil=>
  intro vs w;rw[Li]at w;cases w;exact .nil
 |cons n ns ih=>
  intro vs w;rw[Kd]at w;cases w with
  |cons a b=>
   cases a;exact .cons _ _ (ih _ b)
variable{n:Nat}
def Qs{l:OpenLaw}(hn:l.most=some n){P:Params}{h:Heap}{args:List WData}{XE:List Tr}
  (WL:l.row.toRowW.claim.pre args=true) (hwl:WellAll P h XE args) :
  ∃a vs ns,XE=[Value.ref a]/\args=[WData.list (ns.map WData.int)]/\h.get? a=some {cls:=.type "list",data:=.seq vs.toArray}/\IntsAre vs ns/\ns.length<=n:=by
 have hsh:WShape.hasAll [] args [.list .int]=true:=(pre_splitW WL).1;have hc:l.pre.holds [] {args:=args}=true:=(pre_splitW WL).2;obtain⟨d,r,rfl,h1,h2⟩:=hasAllW_cons hsh;obtain rfl:=hasAllW_nil h2;obtain⟨xs,rfl,h3⟩:=hasW_list h1;obtain⟨ns,rfl⟩:=items_int h3;have LS:ns.length<=n:=by
  unfold OpenLaw.pre at hc;have h4:(WTm.not (.lt (.lit (.int (n:Int))) (.len (.arg 0)))).holds [] {args:=[.list (ns.map .int)]}=true:=by
   have h4:=(holds_andW hc).1;rw[hn]at h4;exact h4
  have h5:=condW_of h4 (w_not (w_lt w_lit (w_len_list (w_arg rfl))));rw[JY]at h5;refine Nat.le_of_not_lt fun q=>?_;have q':(n:Int)<((ns.length:Nat):Int):=by lia
  first
   |(rw[b_ q']at h5;exact absurd h5 zd)
   |(simp at h5;lia)
 cases hwl with
 |cons w1 w2=>
  cases w2;cases w1 with
  |list ho V_=>exact⟨_,_,ns,rfl,rfl,ho,O8 ns _ V_,LS⟩
def Qr(l:OpenLaw)(args:List WData):l.row.toRowW.claim.post args (.bool true) args=true:=
 postW_of (r:=l.row.toRowW) (X:=(true==true))
  (show WShape.has [] (.bool true) .bool=true by first|rfl|decide|simp[WShape.has,WShape.arms,WShape.armsAll])
  (show(WTm.eq .res (.lit (.bool true))).value [] {args:=args,res:=some (.bool true),after:=args}=some (.bool (true==true))from w_eq_bool (w_res rfl) w_lit) rfl
def attach_call{l:OpenLaw}{n:Nat}{q:Tv}{Vt:TH}{XP:(Str->Option Tr)->Heap->Prop}{YP:Tw->Heap->Prop}{d:DefRec}
  (hn:l.most=some n) (Ze:d.params.defaults=[])
  (call:∀(w:Tw)(s₀ s₁:Tu)(mg mb:Str->Option Tr)(fa:Ts)(o:Obj)(pm cd doc:Tr)(a:Ts)(vs:List Tr)(ns:List Int),
   Ground q Vt [] XP w s₀ mg mb s₁.heap->YP w s₁.heap->
   s₁.heap.get? fa=some o->o.data=.func (docDef d.name d.params d.body d.scope pm cd doc)->s₁.heap.CodeRec cd d.name->mg d.name=some (.ref fa)->
   s₁.heap.get? a=some {cls:=.type "list",data:=.seq vs.toArray}->IntsAre vs ns->ns.length<=n->s₁.gens=#[]->
   codeAny (model l.prog w) callerA (.call (.ref fa) ⟨[.ref a],[]⟩) (fun r s'=>r=.ok (.ret (.bool true))/\OldK s₁.heap s'.heap/\s'.os=s₁.os/\AllBare s'.gens) s₁) :
  WalkO q Vt XP YP l.row.toRowW d [] (fun f vs=>PySem.call f vs):=by
 intro w s₀ s₁ mg mb G Y fa o pm cd doc dV kV ho hd Ug hD hmg hg args XE as WL hlay hrd hwl hlo;obtain rfl:dV=.none:=Dflts.none hD Ze;obtain rfl:kV=.none:=Dflts.noKw hD;obtain⟨a,vs,ns,rfl,rfl,XR,Wf,LS⟩:=Qs hn WL hwl;refine enter_call (C_ (call w s₀ s₁ mg mb fa o pm cd doc a vs ns G Y ho (fd_plain hd) Ug hmg XR Wf LS hg) fun r s' hq=>?_);obtain⟨rfl,h2,h3,h4⟩:=hq;exact⟨.inl ⟨.bool true,.bool true,[],rfl,fun _=>rfl,.bool true,Qr l _,fun _=>⟨List.Pairwise.nil,fun _ hm=>(nomatch hm)⟩⟩,h2,h3,h4⟩
end Att
namespace L2
open PySem PySem.Spec PyProof.Rows
def nQ:∀{vs:List Tr}{ns:List Int},IntsAre vs ns->N2 (ns.map V.int) vs
 |_,_,.nil=>.nil
 |_,_,.cons n t h=>.cons ⟨t,rfl⟩ (nQ h)
def cJ(s:Stmt)(j:Nat):Stmt:=match s with
 |.ClassDef _ _ _ body _ _ _ _ _ _ _=>body.getD j (.Pass ⟨0,0,0,0⟩)
 |_=>.Pass ⟨0,0,0,0⟩
def df(s:Stmt):Arguments:=match s with
 |.FunctionDef _ a _ _ _ _ _ _ _ _=>a
 |_=>{posonlyargs:=[],args:=[],vararg:=none,kwonlyargs:=[],kw_defaults:=[],kwarg:=none,defaults:=[]}
def cA(s:Stmt):List Stmt:=match s with
 |.FunctionDef _ _ b _ _ _ _ _ _ _=>b
 |_=>[]
def ak(s:Stmt):Scope:=match s with
 |.FunctionDef _ _ _ _ _ _ sc _ _ _=>sc
 |_=>{kind:=.function,names:=[],isGenerator:=false,isCoroutine:=false}
abbrev bZ:xF:=fun _ _ _ _ _ _=>False
abbrev E0:XK:=fun _ _ _=>False
def iq{X:Cx}:fj bZ X E0:=fun _ _ _ _ _ _ _ h=>h.elim
structure Ob(K:ZF)(x qual:Str)(st:Stmt)(f:Ts)(fd:TB):Prop where
 ex:∃(oc:Tr)(od:Option Ts)(kV doc pm:Tr)(an:Option Ts)(Mb ct:Tr)(Uj:Array (Option Tr)),
  fd=PySem.W.fnOf x qual (df st) (cA st) (ak st) .none kV doc pm an Mb ct/\K.lookup f=some ⟨oc,od,.func fd,Uj⟩/\PySem.W.codeIn K Mb qual=true
 kp:PySem.W.keepIn K (.ref f)=true
section
variable{P:Tv}{w:Tw}{K:ZF}{mg:Str->Option Tr}{base:Heap}
variable{fd:TB}{f:Ts}{st:Stmt}{x qual:Str}
def Ob.ok{N ps:TH}{k:Nat}{sp:Sp}(F:Ob K x qual st f fd)(S:av N ps (ak st))(len:∀vs H Q E,sp vs H Q E->vs.length=ps.length)
  (Up:∀(Mb:Tr)(A:Tz)(outer:List Env)(s:Tu)(H:Hp)(vs:TQ)(Q:VK)(E:XK),N1 k (A.deeper (envOfC qual (ak st) s.heap.objs.size f Mb))->sp vs H Q E->
   ∃t,O9 (m6 bZ P w K mg base N qual (ak st) f Mb A outer s H E).nox (cA st) t/\t {nx:=fun _ H'=>Q .non H',rt:=Q} (start N vs) H):NZ P w K mg base bZ (k+1) f fd ps sp:=by
 obtain⟨oc,od,kV,doc,pm,an,Mb,ct,Uj,rfl,lk,Ug⟩:=F.ex;refine yg lk Ug S len fun A outer s H vs Q E hr UC=>?_;obtain⟨t,h,q⟩:=Up Mb A outer s H vs Q E hr UC;exact⟨t,h.nox,q⟩
def Ob.binds{ps:TH}(F:Ob K x qual st f fd)
  (h:∀(kV doc pm:Tr)(an:Option Ts)(Mb ct:Tr)(us:List Tr),us.length=ps.length->bindArgs (PySem.W.fnOf x qual (df st) (cA st) (ak st) .none kV doc pm an Mb ct) ⟨us,[]⟩=pure (ps.zip us)):Oa K fd ps []:=by
 obtain⟨oc,od,kV,doc,pm,an,Mb,ct,Uj,rfl,lk,Ug⟩:=F.ex;exact .all (h kV doc pm an Mb ct)
def yk{oc:Tr}{od an:Option Ts}{Uj:Array (Option Tr)}{kV doc pm Mb ct:Tr}(l:K.lookup f=some ⟨oc,od,.func (PySem.W.fnOf x qual (df st) (cA st) (ak st) .none kV doc pm an Mb ct),Uj⟩)
  (c:PySem.W.codeIn K Mb qual=true) (k:PySem.W.keepIn K (.ref f)=true):Ob K x qual st f (PySem.W.fnOf x qual (df st) (cA st) (ak st) .none kV doc pm an Mb ct):=⟨⟨oc,od,kV,doc,pm,an,Mb,ct,Uj,rfl,l,c⟩,k⟩
end
def eY{A:Tz}{k:Nat}(hr:N1 k A):A.units+1<cLine:=Nat.lt_of_le_of_lt (Nat.add_le_add_left (by decide:1<=64) _) hr.units
section
variable{X:Cx}
def pv(i:Nat){x:Str}{pos:Pos}(hN:X.N[i]?=some x:=by rfl)(hv:FZ X.env.scope x:=by first|exact Or.inl rfl|exact Or.inr (Or.inl rfl)|exact Or.inr (Or.inr rfl))(hd:(x==("__debug__":Str))=false:=by decide)
  (Ug:(x==("__classdict__":Str))=false:=by decide):PE X (.Name x pos) (lA i):=xG hN hv hd Ug
end
section
variable{A B:Prop}
def bK(h:B):if false=true then A else B:=by
 rw[f_ Kh];exact h
def im(h:A):if true=true then A else B:=by
 rw[g_ rfl];exact h
def bW{c A B:Prop} [Decidable c](h1:c->A)(h2:¬c->B):if c then A else B:=by
 by_cases h:c
 ·rw[g_ h];exact h1 h
 ·rw[f_ h];exact h2 h
def NV(H H':Hp):Prop:=∀b o,H b=some o->H' b=some o
def NV.refl(H:Hp):NV H H:=fun _ _ h=>h
variable{H H1 H2:Hp}
def NV.trans(a:NV H H1)(b:NV H1 H2):NV H H2:=fun c o h=>b c o (a c o h)
def NV.free{H H':Hp}(e:NV H H'){l:Ts}(h:H' l=Option.none):H l=Option.none:=by
 cases q:H l with
 |none=>rfl
 |some o=>
  rw[e l o q]at h;cases h
end
def iB(env:Env):∀(names:List (Str×NameKind))(cs:List (Str×Ts)),(∀x∈names,x.2=.free->∃c,env.cells.lookup x.1=some c)->(∀x c,cs.lookup x=some c->env.cells.lookup x=some c)->
  ∃cl,(forIn names cs fun(p:Str×NameKind)(r:List (Str×Ts))=>(if(p.2==NameKind.free)=true then do let c <-cellOf env p.1;pure (ForInStep.yield ((p.1,c)::r))else pure (ForInStep.yield r):Sem (ForInStep (List (Str×Ts)))))=(pure cl:Sem (List (Str×Ts))) /\
   (∀x c,cl.lookup x=some c->env.cells.lookup x=some c)/\(∀x,(∃c,cs.lookup x=some c)->∃c,cl.lookup x=some c)/\∀x∈names,x.2=.free->∃c,cl.lookup x.1=some c
 |[],cs,_,h=>⟨cs,rfl,h,fun _ z=>z,fun _ z=>nomatch z⟩
 |(n,k)::r,cs,hn,h=>by
  by_cases e:k=.free
  ·subst e;obtain⟨c,hc⟩:=hn (n,.free) JW rfl;have h':∀x c',((n,c)::cs).lookup x=some c'->env.cells.lookup x=some c':=fun x c' q=>by
    rw[K5]at q;cases ex:x==n with
    |true=>
     rw[ex]at q;have:x=n:=by simpa using ex
     subst this;cases q;exact hc
    |false=>rw[ex]at q;exact h x c' q
   obtain⟨cl,e1,e2,e3,e4⟩:=iB env r ((n,c)::cs) (fun x hx=>hn x (JZ _ hx)) h';refine⟨cl,?_,e2,fun x⟨c',q⟩=>e3 x ?_,fun x hx hf=>?_⟩
   ·rw[H_];rw[g_ (show(((n,NameKind.free):Str×NameKind).2==NameKind.free)=true from by rfl)];unfold cellOf;rw[hc];exact e1
   ·rw[K5];cases ex:x==n with
    |true=>exact⟨c,rfl⟩
    |false=>exact⟨c',q⟩
   ·rcases J0.mp hx with z|z
    ·subst z;exact e3 n ⟨c,by rw[K5];simp⟩
    ·exact e4 x z hf
  ·obtain⟨cl,e1,e2,e3,e4⟩:=iB env r cs (fun x hx=>hn x (JZ _ hx)) h;refine⟨cl,?_,e2,e3,fun x hx hf=>?_⟩
   ·rw[H_];rw[f_ (show¬(((n,k):Str×NameKind).2==NameKind.free)=true by simpa using e)];exact e1
   ·rcases J0.mp hx with z|z
    ·subst z;exact absurd hf e
    ·exact e4 x z hf
def lG(hn:∀x∈sc.names,x.2=.free->∃c,env.cells.lookup x.1=some c):
  ∃cl,closureFor sc env=pure cl/\(∀x c,cl.lookup x=some c->env.cells.lookup x=some c)/\∀x∈sc.names,x.2=.free->∃c,cl.lookup x.1=some c:=by
 obtain⟨cl,e1,e2,_,e4⟩:=iB env sc.names [] hn (fun x c z=>by cases z);refine⟨cl,?_,e2,e4⟩;unfold closureFor;exact(e_ (fun(m:Sem (List (Str×Ts)))=>m>>=fun r=>pure r) e1)
def cy:∀{l:List (Str×κ)}{x:Str}{k:κ},l.lookup x=some k->(x,k)∈l
 |[],_,_,h=>by cases h
 |(n,k')::r,x,k,h=>by
  rw[K5]at h;cases e:x==n with
  |true=>
   rw[e]at h;have:x=n:=by simpa using e
   subst this;cases h;exact JW
  |false=>
   rw[e]at h;exact JZ _ (cy h)
def oQ(env:Env)(x:Str)(k:NameKind):NameKind:=if(k==NameKind.free&&env.scope.kind==.function&&env.kindOf x==some .cell)=true then .cell else k
def lH:∀{names:List (Str×NameKind)}{x:Str},
  (names.map fun(p:Str×NameKind)=>match p with|(n,k)=>if(k==NameKind.free&&env.scope.kind==.function&&env.kindOf n==some .cell)=true then(n,NameKind.cell)else(n,k)).lookup x=(names.lookup x).map (oQ env x)
 |[],x=>rfl
 |(n,k)::r,x=>by
  rw[Kd];by_cases e:x=n
  ·subst e;dsimp only;by_cases c:(k==NameKind.free&&env.scope.kind==.function&&env.kindOf x==some .cell)=true
   ·rw[g_ c];have z:oQ env x k=.cell:=g_ c;simp[K5,z]
   ·rw[f_ c];have z:oQ env x k=k:=f_ c;simp[K5,z]
  ·have e':(x==n)=false:=by simpa using e
   dsimp only;rw[K5 (a:=x) (b:=k),e'];show _=(r.lookup x).map (oQ env x);rw[<-lH];by_cases c:(k==NameKind.free&&env.scope.kind==.function&&env.kindOf n==some .cell)=true
   ·rw[g_ c,K5,e']
   ·rw[f_ c,K5,e']
def lI:(compEnvC sc cl C env).kindOf x=(sc.names.lookup x).map (oQ env x):=lH
def wD(N:TH)(sc0 sc:Scope)(N':TH)(ix:List (Option Nat)):Bool:=
 sc.kind==.function&&ix.length==N'.length &&
 sc.names.all (fun p=>p.2 != .cell&&(p.2 != .free||(sc0.names.lookup p.1==some .cell||sc0.names.lookup p.1==some .free))&&(p.2 != .local||sc.names.lookup p.1==some .local)) &&
 (List.range N'.length).all fun j=>match ix[j]?,N'[j]? with
  |some (some i),some x=>N[i]?==some x&&sc.names.lookup x==some .free
  |_,_=>true
def nR(h:wD N sc0 sc N' ix=true):
  sc.kind=.function/\ix.length=N'.length/\(∀p∈sc.names,p.2≠.cell)/\(∀p∈sc.names,p.2=.free->sc0.names.lookup p.1=some .cell\/sc0.names.lookup p.1=some .free) /\
   (∀p∈sc.names,p.2=.local->sc.names.lookup p.1=some .local)/\∀(j i:Nat)(x:Str),ix[j]?=some (some i)->N'[j]?=some x->N[i]?=some x/\sc.names.lookup x=some .free:=by
 unfold wD at h;simp only[KQ,KC,Ro,bne_iff_ne,Bool.or_eq_true,ne_eq]at h;obtain⟨⟨⟨h1,h2⟩,h3⟩,h4⟩:=h;refine⟨h1,h2,fun p hp=>(h3 p hp).1.1,fun p hp hf=>?_,fun p hp hl=>?_,fun j i x e1 e2=>?_⟩
 ·rcases(h3 p hp).1.2 with z|z
  ·exact absurd hf z
  ·exact z
 ·rcases(h3 p hp).2 with z|z
  ·exact absurd hl z
  ·exact z
 ·have hj:j<N'.length:=(JV.mp e2).1;have:=h4 j (K1.mpr hj);rw[e1,e2]at this;simpa using this
def m8(X:Cx)(sc:Scope)(N':TH)(C:Ts)(cl:List (Str×Ts))(s:Tu)(H:Hp)(fp:List Ts):Cx:=
 {X with N:=N',s₀:=s,H₀:=H,env:=compEnvC sc cl C X.env,outer:=X.stack,stack:=X.stack,ex:=fp,fn:=fun _=>false,pn:=[],xe:=fun _ _=>False}
def qv(ix:List (Option Nat))(σ:St):St:=ix.map fun o=>match o with|some i=>(σ[i]?).getD none|none=>none
def O4:St->St->Prop
 |[],[]=>True
 |none::r,_::r'=>O4 r r'
 |some v::r,w::r'=>w=some v/\O4 r r'
 |_,_=>False
def O4.spec:∀{a b:St},O4 a b->a.length=b.length/\∀(i:Nat)v,a[i]?=some (some v)->b[i]?=some (some v)
 |[],[],_=>⟨rfl,fun _ _ z=>by simp at z⟩
 |[],_::_,h=>h.elim
 |none::r,[],h=>h.elim
 |some v::r,[],h=>h.elim
 |none::r,w::r',h=>by
  obtain⟨e1,e2⟩:=O4.spec (a:=r) (b:=r') h;refine⟨by simp[e1],fun i v z=>?_⟩;cases i with
  |zero=>simp at z
  |succ i=>simpa using e2 i v (by simpa using z)
 |some u::r,w::r',h=>by
  obtain⟨e0,h⟩:=h;obtain⟨e1,e2⟩:=O4.spec (a:=r) (b:=r') h;refine⟨by simp[e1],fun i v z=>?_⟩;cases i with
  |zero=>simp at z;subst z;simp[e0]
  |succ i=>simpa using e2 i v (by simpa using z)
structure PF(X:Cx)(Vl:List Expr)(t:TT):Prop where
 run:∀(pins:List (Ts×Obj))(s:Tu)(σ:St)(H:Hp)(Q:Bool->Hp->Prop),NX X pins σ H s->t σ H Q->
  wpAny (model X.prog X.w) X.A (forIn Vl true fun c r=>if r=true then do let ok <-isTrue c X.env (eval c X.env);pure (ForInStep.yield ok)else pure (ForInStep.yield r)) (TP X pins σ Q) X.xe s
instance {X:Cx}{Vl:List Expr}{t:TT}:CoeFun (PF X Vl t) fun _=>∀(pins:List (Ts×Obj))(s:Tu)(σ:St)(H:Hp)(Q:Bool->Hp->Prop),NX X pins σ H s->t σ H Q->
  wpAny (model X.prog X.w) X.A (forIn Vl true fun c r=>if r=true then do let ok <-isTrue c X.env (eval c X.env);pure (ForInStep.yield ok)else pure (ForInStep.yield r)) (TP X pins σ Q) X.xe s:=⟨PF.run⟩
def GF:TT:=fun _ H Q=>Q true H
def dM:PF X [] GF:=⟨fun pins s σ H Q I h=>wpAny_tests_nil ⟨H,I,h⟩⟩
def iC(h:PT X c t):PF X [c] t:=⟨fun pins s σ H Q I q=>wpAny_tests_one (h pins s σ H Q I q)⟩
def wE(J:It)(g:TG)(tf:TT)(te:TE)(ix:List (Option Nat))(σ:St)(H1:Hp)(Q:VK):Prop:=∃W:Nat->Nat->TQ->Hp->Prop,(∃m,W 0 m [] H1)/\∀i m ys H,W i m ys H->
 (J.stop i H/\ys.length<=sizeLine/\∀D,H D=none->Q (.ref D) (aI H D (.lst ys))) ∨
 (J.go i H/\ys.length<=sizeLine/\∀x H',J.yld i H x H'->g x (qv ix σ) H' fun σ2 H2=>O4 (qv ix σ) σ2/\tf σ2 H2 fun b H3=>if b=true then te σ2 H3 fun y H4=>∃m',m'<m/\W (i+1) m' (ys++[y]) H4 else ∃m',m'<m/\W (i+1) m' ys H3)
def IF(wi:TI)(g:TG)(tf:TT)(te:TE)(ix:List (Option Nat)):TE:=fun σ H Q=>wi σ H fun J H1=>wE J g tf te ix σ H1 Q
section
def Eb(I:NX X pins σ H2 s2)(WZ:wD X.N X.env.scope sc N' ix=true)(e2:∀x c,cl.lookup x=some c->X.env.cells.lookup x=some c)(e3:∀x∈sc.names,x.2=.free->∃c,cl.lookup x.1=some c)
  (f2:∀b∈fp,m5 X pins H2 b) (fo:∀b∈fp,∃o,s2.heap.get? b=some o) (hC:s2.heap.objs.size<=C):(m8 X sc N' C cl s2 H2 fp).Ok:=by
 obtain⟨k1,_,k3,_,_,_⟩:=nR WZ;refine⟨I.ok.mod,k1,I.ok.glob,I.ok.blt,hC,fun x y c a b=>I.ok.inj x y c (e2 x c a) (e2 y c b),fun x hx=>?_,fun x c z=>(by cases z),I.ok.hd,I.ok.frames,.inl rfl,fun b hb=>?_,I.bs,Kx I.ok.bsz I.sz,fun b o e hb=>?_,fun b hb hf=>?_,I.stack,I.stkFree⟩
 ·have Uk:(compEnvC sc cl C X.env).kindOf x=some .cell\/(compEnvC sc cl C X.env).kindOf x=some .free:=hx;rw[lI]at Uk;cases q:sc.names.lookup x with
  |none=>rw[q]at Uk;rcases Uk with z|z<;>cases z
  |some k=>
   have hm:=cy q;have hf:k=.free:=by
    rw[q]at Uk;have nk:=k3 _ hm;cases k with
    |free=>rfl
    |cell=>exact absurd rfl nk
    |_=>rcases Uk with z|z<;>(simp[oQ]at z)
   exact e3 (x,k) hm hf
 ·obtain⟨o,ho⟩:=fo b hb;exact⟨Kq (Kf (Ka ho) hC),fun x c q=>(f2 b hb).2.2.2.2.1 x c (e2 x c q)⟩
 ·have Ub:b∈fp:=hb;rcases(f2 b Ub).2.2.2.1 with z|z
  ·exact I.ok.noex b o e z
  ·exact absurd (Kf (Ka e) (Kx I.ok.bsz z)) (K4 _)
 ·have Ub:b∈fp:=hb;rcases J0.mp (I.stkSub b hf)with z|z
  ·exact(f2 b Ub).2.1 z
  ·exact(f2 b Ub).2.2.1 z
end
section
structure Qi(X:Cx)(pins:List (Ts×Obj))(σ:St)(H:Hp)(s:Tu)(C:Ts):Prop where
 inv:NX X pins σ H s
 ns:∃m,s.heap.Ns C m
 free:H C=none
 loc:C≠X.env.locals
 cel:∀x c,X.env.cells.lookup x=some c->c≠C
 abv:X.s₀.heap.objs.size<=C
 pin:∀p∈X.pn++pins,p.1≠C
def Qi.gone(L:Qi X pins σ H s C)(sb:Heap.SameBut C s.heap h'):NX X pins σ H {s with heap:=h'}:=
 L.inv.turned (it:=C) (t':=s.toks) (fun b o hb e=>(sb.2 b hb).trans e) L.free L.loc (.inr L.abv) L.cel L.pin
def uY(hc:X.calm=true)(WZ:wD X.N X.env.scope sc N' ix=true)(hi:PI X tg iter wi)
  (hg:∀C cl s H fp,PG (m8 X sc N' C cl s H fp) tg g) (hf:∀C cl s H fp,PF (m8 X sc N' C cl s H fp) Vl tf) (he:∀C cl s H fp,PE (m8 X sc N' C cl s H fp) WC te)
  (hs:∀x,foldedSetIterable iter X.env x=pure x) (I:NX X pins σ H s) (h:IF wi g tf te ix σ H Q)
  (XU:∀(C D:Ts)(H':Hp)(s':Tu),Qi X pins σ H' s' C->Q (.ref D) H'->compPost (model X.prog X.w) X.A X.xe use Qf (.ref D) C (.ok .next) s') :
  wpAny (model X.prog X.w) X.A (comprehension (.ListComp WC [⟨tg,iter,Vl,0⟩] sc pos) sc X.env S' (newList []) false (eval iter X.env) use) Qf X.xe s:=by
 obtain⟨hk,LS,UA,Wh,X3,hat⟩:=nR WZ;obtain⟨cl,e1,e2,e3⟩:=lG (env:=X.env) (sc:=sc) (fun x hx hf=>I.ok.has x.1 (Wh x hx hf));refine wpAny_comprehension_free (use:=use) (cl:=cl) rfl hs e1 hk X3 (bH (hi pins s σ H _ I h) fun v s1 h1=>bH h1 fun itv s2 h2=>?_);obtain⟨it,fp,tn,J,H2,e,I2,T,YG,f2,W,⟨m0,w0⟩,UV⟩:=h2;subst e;refine w_ (wpAny_newFunctionEnv UA (by intro y hy;simp at hy) (fun h₁ XS WK=>?_) hk);dsimp only at XS WK⊢;generalize hH2:s2.heap.push {cls:=.type "list",dict:=none,data:=.seq ([]:List Tr).toArray}=G2 at XS WK⊢;have hCs:G2.objs.size=s2.heap.objs.size+1:=by rw[<-hH2,Lg]
 have hDC:s2.heap.objs.size≠G2.objs.size:=by rw[hCs];exact Kq (Lv _)
 have XX:s2.heap.objs.size<=G2.objs.size:=by rw[hCs];exact RS _
 have UK:∀b,b<s2.heap.objs.size->b≠G2.objs.size:=fun b hb=>by rw[hCs];exact Kq (Nat.lt_succ_of_lt hb)
 have Vg:∀b,b<s2.heap.objs.size->b≠s2.heap.objs.size:=fun b hb=>Kq hb;have old:∀b o,s2.heap.get? b=some o->h₁.get? b=some o:=fun b o e=>WK.extBut b o (UK b (Ka e)) (JQ _ (hH2▸JQ _ e));have WN:h₁.get? s2.heap.objs.size=some {cls:=.type "list",data:=.seq ([]:List Tr).toArray}:=WK.extBut _ _ hDC (JQ _ (hH2▸Ki _ rfl));have fo:∀b∈fp,∃o,s2.heap.get? b=some o:=fun b hb=>let⟨o,ho,_⟩:=T.obj _ _ YG b hb;⟨o,ho⟩;have fD:∀b∈fp,b≠s2.heap.objs.size:=fun b hb=>let⟨o,ho⟩:=fo b hb;Vg b (Ka ho);have Ya:(m8 X sc N' G2.objs.size cl s2 H2 fp).Ok:=Eb I2 WZ e2 e3 f2 fo XX;have HD:H2 s2.heap.objs.size=none:=I2.hok.fresh (J2 _);have HC:H2 G2.objs.size=none:=I2.hok.fresh XX;have I4:NX (m8 X sc N' G2.objs.size cl s2 H2 fp) [] (qv ix σ) H2 {s2 with heap:=h₁,toks:=s2.toks+([]:List (Str×Tr)).length}:=by
  refine⟨Ya,rfl,I2.bare,Un.kept old,⟨_,XS,fun j x v a b c=>?_⟩,fun x c q=>?_,HC,fun x c q=>I2.freeC x c (e2 x c q),fun p hp=>(by cases hp),I2.hok.kept old,?_⟩
  ·
   have a':N'[j]?=some x:=a;have b':(ix.map fun o=>match o with|some i=>(σ[i]?).getD none|none=>none)[j]?=some (some v):=b;rw[Kl]at b';cases q:ix[j]? with
   |none=>rw[q]at b';cases b'
   |some o=>
    rw[q]at b';cases o with
    |none=>cases b'
    |some i=>
     obtain⟨n1,n2⟩:=hat j i x q a';have b'':(σ[i]?).getD none=some v:=Kw b';have sv:σ[i]?=some (some v):=by
      cases z:σ[i]? with
      |none=>rw[z]at b'';cases b''
      |some y=>rw[z]at b'';exact e_ some b''
     obtain⟨m,hn,hl⟩:=I2.loc;have kx:=Wh (x,.free) (cy n2) rfl;obtain⟨u,r,lk⟩:=hl i x v n1 sv (.inr kx);refine⟨u,r,.inr ⟨?_,?_⟩⟩
     ·show(compEnvC sc cl G2.objs.size X.env).kindOf x=some .cell\/(compEnvC sc cl G2.objs.size X.env).kindOf x=some .free;rw[lI,n2];show some (oQ X.env x .free)=some .cell\/some (oQ X.env x .free)=some .free;unfold oQ;split
      ·exact .inl rfl
      ·exact .inr rfl
     ·obtain⟨c1,Xw⟩:=e3 (x,.free) (cy n2) rfl;refine⟨c1,Xw,?_⟩;have Yo:=e2 x c1 Xw;rcases lk with⟨z,_⟩|⟨_,c,W4,hcl⟩
      ·have z':X.env.scope.names.lookup x=some .local:=z;rcases kx with y|y<;>(rw[y]at z';cases z')
      ·rw[Yo]at W4;cases W4;obtain⟨o,ho,hd⟩:=hcl;exact⟨o,old c1 o ho,hd⟩
  ·obtain⟨v,o,ho,hd⟩:=I2.cell x c (e2 x c q);exact⟨v,o,old c o ho,hd⟩
  ·show(ix.map _).length=N'.length;rw[JY,LS]
 have ZV:∀x c,cl.lookup x=some c->c≠s2.heap.objs.size:=fun x c q z=>by
  obtain⟨v,o,ho,hd⟩:=I2.cell x c (e2 x c q);exact Vg c (Ka ho) z
 have loop:∀s₃:Tu,s₃={s2 with heap:=h₁,toks:=s2.toks+([]:List (Str×Tr)).length}->
   codeAny (model X.prog X.w) X.A (.compLoop (.ListComp WC [⟨tg,iter,Vl,0⟩] sc pos) 0 (.ref it) (.ref s2.heap.objs.size) (compEnvC sc cl G2.objs.size X.env))
    (compPost (model X.prog X.w) X.A X.xe use Qf (.ref s2.heap.objs.size) G2.objs.size) s₃:=by
  rintro s₃ rfl;refine codeAny_loop rfl (fun n s'=>∃i ys H' f' k,NX (m8 X sc N' G2.objs.size cl s2 H2 fp) [] (qv ix σ) H' s'/\tn i s'.heap/\(∀b∈fp,H' b=none)/\H' s2.heap.objs.size=none /\
   N2 ys f'/\s'.heap.get? s2.heap.objs.size=some {cls:=.type "list",data:=.seq f'.toArray k}/\W i n ys H') ?_ m0
   ⟨0,[],H2,[],_,I4,T.keep _ _ _ YG (fun b _ o e=>old b o e),fun b hb=>(f2 b hb).1,HD,.nil,WN,w0⟩
  rintro n s5 ⟨i,ys,H5,f',k,I5,X5,fr5,hD5,vv,oD,w5⟩;show wpAny _ X.A ((compTurn (.ListComp WC [⟨tg,iter,Vl,0⟩] sc pos) 0 (.ref it) (.ref s2.heap.objs.size) (compEnvC sc cl G2.objs.size X.env)).onRaise (fun x=>do noteFrame x (compEnvC sc cl G2.objs.size X.env);theTreesLotGoes x)) _ _ s5;refine wpAny_noted ?_;rw[compTurn_list];have I5p:NX (m8 X sc N' G2.objs.size cl s2 H2 fp) [(s2.heap.objs.size,{cls:=.type "list",data:=.seq f'.toArray k})] (qv ix σ) H5 s5:=I5.pins_of fun p hp=>by
   have TU:p=(s2.heap.objs.size,{cls:=.type "list",data:=.seq f'.toArray k}):=by simpa using hp
   subst TU;refine⟨oD,hD5,hDC,fun hb=>?_,fun v z=>(by cases z)⟩;obtain⟨_,o,ho,_⟩:=I2.stack.mem (show s2.heap.objs.size∈ny X.stack from hb);exact K4 _ (Ka ho)
  have fpk:∀{H':Hp},(∀b∈fp,H' b=none)->∀b∈fp,m5 (m8 X sc N' G2.objs.size cl s2 H2 fp) [(s2.heap.objs.size,({cls:=.type "list",data:=.seq f'.toArray k}:Obj))] H' b:=fun{H'}hn b hb=>by
   refine⟨hn b hb,(Ya.exf b hb).1,Ya.exfs b hb,.inl hb,(Ya.exf b hb).2,fun p hp=>?_⟩;have TU:p=(s2.heap.objs.size,({cls:=.type "list",data:=.seq f'.toArray k}:Obj)):=by
    have z:p∈([]:List (Ts×Obj))++[(s2.heap.objs.size,({cls:=.type "list",data:=.seq f'.toArray k}:Obj))]:=hp;simpa using z
   subst TU;exact(fD b hb).symm
  rcases UV i n ys H5 w5 with⟨stop,hz,qn⟩|⟨go,hz,step⟩
  ·refine a_ (Rb (a_ (m_ (T.done (m8 X sc N' G2.objs.size cl s2 H2 fp) rfl rfl rfl hc i _ s5 (qv ix σ) H5 (fun _ _=>False) I5p (fpk fr5) X5 stop) (fun r s6⟨hr,I6⟩=>?_) fun _ _ f=>f.elim)));subst hr;refine c_ ?_;obtain⟨m,hn,_⟩:=I6.loc;have oD6:s6.heap.get? s2.heap.objs.size=some {cls:=.type "list",data:=.seq f'.toArray k}:=(I6.pin (s2.heap.objs.size,{cls:=.type "list",data:=.seq f'.toArray k}) (by show _∈([]:List (Ts×Obj))++_;simp)).1;have u6:Un (ny X.stack) fp H2 H5 s2.heap s6.heap:=I6.base;have HC5:H5 G2.objs.size=none:=I6.free;refine XU _ _ (aI H5 s2.heap.objs.size (.lst ys)) s6 ⟨?_,⟨m,hn⟩,by rw[am hDC.symm];exact HC5,(UK _ I2.lt).symm,fun x c q=>?_,Kx I2.sz XX,fun p hp=>?_⟩ (qn _ hD5)
   ·refine I2.call' (s':=s6) (ch:=fp) I6.os ?_ ?_ I6.bare fun b hb=>⟨(f2 b hb).2.2.2.1,(f2 b hb).2.1,(f2 b hb).2.2.2.2.1,(f2 b hb).2.2.2.2.2⟩
    ·refine⟨fun b o e n nf nx=>u6.keep b o e n nf nx,fun b o e n nf nx=>u6.slot b o e n nf nx,fun b o e n nx=>?_,fun b o e nx=>u6.there b o e nx,fun b xs e=>?_,fun b o u e=>?_,fun b ps e=>?_⟩
     ·rw[am (Vg b (Ka e))];exact u6.free b o e n nx
     ·rw[am (az e HD)];exact u6.tups b xs e
     ·rw[am (az e HD)];exact u6.frzs b o u e
     ·rw[am (az e HD)];exact u6.tbls b ps e
    ·intro b o e;by_cases hb:b=s2.heap.objs.size
     ·subst hb;rw[ae]at e;cases e;exact⟨hz,f',k,vv,oD6⟩
     ·rw[am hb]at e;refine(I6.hok b o e).stay (fun c v W4 q=>q) (fun c q=>?_) fun c xs q=>?_
      ·rw[am (az q hD5)];exact q
      ·rw[am (az q hD5)];exact q
   ·obtain⟨v,o,ho,hd⟩:=I2.cell x c q;exact UK c (Ka ho)
   ·exact UK p.1 (Ka (I2.pin p hp).1)
  ·refine a_ (Rb (a_ (m_ (T.item (m8 X sc N' G2.objs.size cl s2 H2 fp) rfl rfl rfl hc i _ s5 (qv ix σ) H5 (fun _ _=>False) I5p (fpk fr5) X5 go) (fun r s6⟨u,hr,h6⟩=>?_) fun _ _ f=>f.elim)));subst hr;refine a_ (m_ h6 (fun _ s7 hZZ=>?_) fun _ _ f=>f.elim);obtain⟨x,H7,I7,r7,y7,gy,fr7⟩:=hZZ;have I7':=I7.pinned (fpk fr7) (T.obj _ _ gy);refine a_ (m_ (hg _ _ _ _ _ _ s7 (qv ix σ) H7 x u _ I7' r7 (step x H7 y7)) (fun _ s8 hZZ=>?_) fun _ _ f=>f.elim);obtain⟨σ8,H8,I8,x8,q8⟩:=hZZ;obtain⟨xl,xv⟩:=x8.spec;have Xd:∀{σ9:St}{H9:Hp}{s9:Tu}{pl:List (Ts×Obj)},(∀p∈fg fp s7.heap,p∈pl)->NX (m8 X sc N' G2.objs.size cl s2 H2 fp) pl σ9 H9 s9->tn (i+1) s9.heap/\∀b∈fp,H9 b=none:=fun{σ9 H9 s9 pl}hp I9=>by
    have pn:∀b o,b∈fp->s7.heap.get? b=some o->s9.heap.get? b=some o/\H9 b=none:=fun b o hb e=>by
     have:=I9.pin (b,o) (Km _ (hp _ (iA hb e)));exact⟨this.1,this.2.1⟩
    refine⟨T.keep _ _ _ gy fun b hb o e=>(pn b o hb e).1,fun b hb=>?_⟩;obtain⟨o,e,_⟩:=T.obj _ _ gy b hb;exact(pn b o hb e).2
   refine a_ (m_ (hf _ _ _ _ _ _ s8 σ8 H8 _ I8 q8) (fun ok s9⟨H9,I9,q9⟩=>?_) fun _ _ f=>f.elim);have pD:∀{σ9:St}{H9:Hp}{s9:Tu},NX (m8 X sc N' G2.objs.size cl s2 H2 fp) ([(s2.heap.objs.size,({cls:=.type "list",data:=.seq f'.toArray k}:Obj))]++fg fp s7.heap) σ9 H9 s9->
     s9.heap.get? s2.heap.objs.size=some {cls:=.type "list",data:=.seq f'.toArray k}/\H9 s2.heap.objs.size=none:=fun{σ9 H9 s9}I9=>by
    have:=I9.pin (s2.heap.objs.size,{cls:=.type "list",data:=.seq f'.toArray k}) (Km _ (K3 _ (by simp)));exact⟨this.1,this.2.1⟩
   cases ok with
   |false=>
    obtain⟨m',hm,w9⟩:=(show ∃m',m'<n/\W (i+1) m' ys H9 from by simpa using q9);obtain⟨t9,fr9⟩:=Xd (fun p hp=>Km _ hp) I9;obtain⟨oD9,hD9⟩:=pD I9;refine c_ ⟨rfl,m',hm,i+1,ys,H9,f',k,(I9.pins_of (pins':=[]) fun p hp=>nomatch hp).weak xl xv,t9,fr9,hD9,vv,oD9,w9⟩
   |true=>
    have q9':te σ8 H9 fun y H4=>∃m',m'<n/\W (i+1) m' (ys++[y]) H4:=by simpa using q9
    refine a_ (a_ (m_ (he _ _ _ _ _ _ s9 σ8 H9 _ I9 q9') (fun yv sA hZZ=>?_) fun _ _ f=>f.elim));obtain⟨y,HA,IA,rA,m',hm,wA⟩:=hZZ;obtain⟨oDA,hDA⟩:=pD IA;have hsz:f'.toArray.size<=sizeLine:=by rw[Ks,<-vv.length];exact hz
    refine a_ (wpAny_list_append_plain (hsz:=hsz) ⟨_,oDA⟩ fun h9 pl9 sb9=>?_);have IB:NX (m8 X sc N' G2.objs.size cl s2 H2 fp) (fg fp s7.heap) σ8 HA sA:=IA.pins_of fun p hp=>IA.pin p (Km _ (Km _ hp));have IC:NX (m8 X sc N' G2.objs.size cl s2 H2 fp) (fg fp s7.heap) σ8 HA {sA with heap:=h9}:=IB.turned (it:=s2.heap.objs.size) (t':=sA.toks) (fun b o hb e=>(sb9.2 b hb).trans e) hDA hDC (.inr (J2 _)) (fun x c q=>ZV x c q) fun p hp=>by
     have TU:p∈fg fp s7.heap:=by
      have z:p∈([]:List (Ts×Obj))++fg fp s7.heap:=hp;simpa using z
     exact fD p.1 (nB TU).1
    obtain⟨t9,fr9⟩:=Xd (fun p hp=>hp) IC;obtain⟨k',oD'⟩:=pl9;refine c_ (c_ ⟨rfl,m',hm,i+1,ys++[y],HA,f'++[yv],k',(IC.pins_of (pins':=[]) fun p hp=>nomatch hp).weak xl xv,t9,fr9,hDA,vv.append (.cons rA .nil),?_,wA⟩);show h9.get? s2.heap.objs.size=_;rw[oD'];simp
 exact codeAny_compStart_list (loop _ rfl) (T.self X.A 0 _ _ _ (T.keep _ _ _ YG (fun b _ o e=>old b o e)) (loop _ rfl))
def dQ(hc:X.calm=true)(WZ:wD N sc0 sc N' ix=true)(hi:PI X tg iter wi)
  (hg:∀C cl s H fp,PG (m8 X sc N' C cl s H fp) tg g) (hf:∀C cl s H fp,PF (m8 X sc N' C cl s H fp) Vl tf) (he:∀C cl s H fp,PE (m8 X sc N' C cl s H fp) WC te)
  (eN:X.N=N:=by rfl) (eS:X.env.scope=sc0:=by rfl) (hs:∀x,foldedSetIterable iter X.env x=pure x:=by intro _;rfl) :
  PE X (.ListComp WC [⟨tg,iter,Vl,0⟩] sc pos) (IF wi g tf te ix):=by
 walk_at "p";subst eN eS;rw[eval_ListComp];refine uY (use:=none) hc WZ hi hg hf he hs I h fun C D H' s' L q=>?_;obtain⟨m,hn⟩:=L.ns;exact⟨m,hn,fun h' sb=>⟨.ref D,H',L.gone sb,rfl,q⟩⟩
def Ec(i:Nat)(t:TE):TS:=fun D σ H=>t σ H fun v H1=>D.nx (σ.set i (some v)) H1
def lJ(hN:X.N.Nodup)(hiy:X.N[i]?=some y)(hy:X.env.scope.names.lookup y=some .local)(hc:X.calm=true)(WZ:wD N sc0 sc N' ix=true)(hi:PI X tg iter wi)
  (hg:∀C cl s H fp,PG (m8 X sc N' C cl s H fp) tg g) (hf:∀C cl s H fp,PF (m8 X sc N' C cl s H fp) Vl tf) (he:∀C cl s H fp,PE (m8 X sc N' C cl s H fp) WC te)
  (eN:X.N=N:=by rfl) (eS:X.env.scope=sc0:=by rfl) (hs:∀x,foldedSetIterable iter X.env x=pure x:=by intro _;rfl)
  (hsw:swapsWith (.ListComp WC [⟨tg,iter,Vl,0⟩] sc pos) (some (.Name y py)) spos.line X.env=pure true:=by rfl) :
  PS X (.Assign [.Name y py] (.ListComp WC [⟨tg,iter,Vl,0⟩] sc pos) spos) (Ec i (IF wi g tf te ix)):=by
 refine⟨?_⟩;intro pins s σ H Dn I h;subst eN eS;rw[exec_Assign_Name_used _ _ _ _ hsw];refine a_ (Rb (a_ ?_));show wpAny _ X.A (do let _ <-comprehension (.ListComp WC [⟨tg,iter,Vl,0⟩] sc pos) sc X.env _ (newList []) false (eval iter X.env) (some (assign (.Name y py) X.env))) _ _ s;refine a_ (m_ (uY (use:=some (assign (.Name y py) X.env)) (Qf:=fun _ s'=>SP X pins Dn .next s') hc WZ hi hg hf he hs I h fun C D H' s' L q=>?_) (fun _ s' hq=>c_ (c_ hq)) fun _ _ e=>e);show wpAny _ X.A (assign (.Name y py) X.env (.ref D)) _ _ s';refine wpAny_assign_Name (nA L.inv hN hiy (.inl hy) (v:=.ref D) rfl (fun s1 I1 Yh=>?_) (.inr hy));obtain⟨a,sb,ha⟩:=Yh;have haC:C≠a:=by
  rcases ha with z|z
  ·rw[z];exact L.loc
  ·exact(L.cel y a z).symm
 obtain⟨m,hn⟩:=L.ns;have L1:Qi X pins (σ.set i (some (.ref D))) H' s1 C:=⟨I1,⟨m,hn.sameBut sb haC⟩,L.free,L.loc,L.cel,L.abv,L.pin⟩;exact⟨m,hn.sameBut sb haC,fun h' sb'=>⟨_,H',L1.gone sb',q⟩⟩
end
end L2
namespace L2
open PySem
def Nx(Pv:Nat->TQ->Hp->Prop)(n i:Nat)(ys:TQ)(H:Hp):Prop:=∃m',m'<n-i/\(m'=n-(i+1)/\i+1<=n/\Pv (i+1) ys H)
def Nx.mk(h:i<n)(p:Pv (i+1) ys H):Nx Pv n i ys H:=⟨n-(i+1),zo,rfl,h,p⟩
def eu(Pv:Nat->TQ->Hp->Prop)(h0:Pv 0 [] H)
  (hl:∀i ys H,i<=xs.length->Pv i ys H->N0 K H a xs/\ys.length<=sizeLine)
  (hs:∀i x ys H,xs[i]?=some x->Pv i ys H->g x (qv ix σ) H fun σ2 H2=>O4 (qv ix σ) σ2/\tf σ2 H2 fun b H3=>if b=true then te σ2 H3 fun y H4=>Nx Pv xs.length i (ys++[y]) H4 else Nx Pv xs.length i ys H3)
  (hd:∀ys H,Pv xs.length ys H->∀D,H D=none->Q (.ref D) (aI H D (.lst ys))) :
  wE (F5 K a) g tf te ix σ H Q:=by
 refine⟨fun i m ys H=>m=xs.length-i/\i<=xs.length/\Pv i ys H,⟨xs.length,by simp,KO _,h0⟩,?_⟩;rintro i m ys H ⟨rfl,hi,p⟩;obtain⟨q,hz⟩:=hl i ys H hi p;by_cases Md:i<xs.length
 ·refine .inr ⟨⟨xs,xs[i],q,by simp[Md]⟩,hz,fun x H' y=>?_⟩;obtain⟨e,y⟩:=y;subst e;exact hs i x ys _ (y xs q) p
 ·have e:i=xs.length:=by lia
  subst e;exact .inl ⟨⟨xs,q,J2 _⟩,hz,hd ys H p⟩
def dN{σ:St}{H:Hp}{A B:Hp->Prop}(h:A H):GF σ H fun b H3=>if b=true then A H3 else B H3:=by
 show if true=true then A H else B H;rw[g_ rfl];exact h
end L2
namespace L2
open PySem PySem.Spec PyProof.Rows
def yl(w:Tw)(p:Str×V)(e:DictEntry):Prop:=e.hash=hashStr w p.1/\(∃t,e.key=.str p.1 t)/\N3 p.2 e.val
def kA(w:Tw)(K:ZF)(a:Ts)(kvs:List (Str×V)):Prop:=
 ∃(es:Array DictEntry)(ep:Nat),K.lookup a=some {cls:=.type "dict",data:=.dict es ep}/\Paired (yl w) kvs es.toList
def qN:∀{kvs:List (Str×V)}{es:List DictEntry},Paired (yl w) kvs es->∀e∈es,∃k,(strKind P w).is k e.key=true/\e.hash=(strKind P w).hash k
 |_,_,.nil,_,h=>nomatch h
 |(x,y)::r,e::es,.cons h t,e',he=>by
  rcases J0.mp he with z|z
  ·subst z;obtain⟨h1,⟨tk,h2⟩,h3⟩:=h;refine⟨x,?_,h1⟩;rw[h2];show Value.isStrOf x (.str x tk)=true;simp[Value.isStrOf]
  ·exact qN t e' z
mutual
inductive Dt(K:ZF)(H:Hp):V->PyData->Prop
 |non:Dt K H .non .none
 |bl (b:Bool):Dt K H (.bl b) (.bool b)
 |int (i:Int):Dt K H (.int i) (.int i)
 |str (x:Str):Dt K H (.str x) (.str x)
 |lst {a:Ts} {xs:TQ} {ds:List PyData}:N0 K H a xs->Oy K H xs ds->Dt K H (.ref a) (.list ds)
 |tup {a:Ts} {xs:TQ} {ds:List PyData}:NY K H a xs->Oy K H xs ds->Dt K H (.ref a) (.tuple ds)
inductive Oy(K:ZF)(H:Hp):TQ->List PyData->Prop
 |nil:Oy K H [] []
 |cons {v:V} {d:PyData} {vs:TQ} {ds:List PyData}:Dt K H v d->Oy K H vs ds->Oy K H (v::vs) (d::ds)
end
section
mutual
def Dt.reads(I:NX X pins σ H s):∀{v:V}{d:PyData}{u:Tr},Dt X.K H v d->N3 v u->∃as,Reads s.heap u d as
 |_,_,_,.non,r=>by cases r;exact⟨_,.none⟩
 |_,_,_,.bl b,r=>by cases r;exact⟨_,.bool b⟩
 |_,_,_,.int i,r=>by obtain⟨t,rfl⟩:=r;exact⟨_,.int i t⟩
 |_,_,_,.str x,r=>by obtain⟨t,rfl⟩:=r;exact⟨_,.str x t⟩
 |_,_,_,.lst hS hA,r=>by
  cases r;obtain⟨f',rv,⟨o,n,e,c,dd,hd⟩,hz⟩:=I.list hS;obtain⟨as,ha⟩:=Oy.reads I hA rv;first
   |exact⟨_,.list e c hd (by simpa using ha)⟩
   |exact⟨_,.list e c dd (by simpa using ha)⟩
 |_,_,_,.tup hS hA,r=>by
  cases r;obtain⟨f',rv,⟨o,e,c,n,hd⟩,hz⟩:=I.tuple hS;obtain⟨as,ha⟩:=Oy.reads I hA rv;exact⟨_,.tuple e c hd (by simpa using ha)⟩
def Oy.reads(I:NX X pins σ H s):∀{vs:TQ}{ds:List PyData}{us:List Tr},Oy X.K H vs ds->N2 vs us->∃as,ReadsAll s.heap us ds as
 |_,_,_,.nil,.nil=>⟨_,.nil⟩
 |_,_,_,.cons h t,.cons r rr=>by
  obtain⟨a1,h1⟩:=Dt.reads I h r;obtain⟨a2,h2⟩:=Oy.reads I t rr;exact⟨_,.cons h1 h2⟩
end
end
section
inductive QU(K:ZF)(x:V)(y:V)(H:Hp)(Q:VK):Prop
 |mk(dx dy:_):Dt K H x dx->Dt K H y dy->dx.canLay0=true->dy.canLay0=true->min dx.depth dy.depth<=60->Q (.bl (PyData.eqv dx dy)) H->QU K x y H Q
inductive QE(K:ZF)(x:V)(y:V)(H:Hp)(Q:VK):Prop
 |mk(dx dy:_):Dt K H x dx->Dt K H y dy->dx.canLay0=true->dy.canLay0=true->min dx.depth dy.depth<=60->Q (.bl (!PyData.eqv dx dy)) H->QE K x y H Q
def Qx(hr:N1 k X.A):fv X (compareOp .Eq) (QU X.K):=by
 walk_at "t";obtain⟨dx,dy,h1,h2,c1,c2,dp,q⟩:=h;obtain⟨as,ra⟩:=h1.reads I rx;obtain⟨bs,rb⟩:=h2.reads I ry;exact SeqAt.compareEq_reads ra rb c1 c2 (by have:=hr.un;lia) ⟨.bl _,H,I,rfl,q⟩
def OK(hr:N1 k X.A):fv X (compareOp .NotEq) (QE X.K):=by
 walk_at "t";obtain⟨dx,dy,h1,h2,c1,c2,dp,q⟩:=h;obtain⟨as,ra⟩:=h1.reads I rx;obtain⟨bs,rb⟩:=h2.reads I ry;exact SeqAt.compareNe_reads ra rb c1 c2 (by have:=hr.un;lia) ⟨.bl _,H,I,rfl,q⟩
end
def QB(ns:List Int):PyData:=.list (ns.map .int)
section
variable{H:Hp}{K:ZF}
def Pc:∀(ns:List Int),Oy K H (ns.map V.int) (ns.map PyData.int)
 |[]=>.nil
 |n::r=>.cons (.int n) (Pc r)
def QO{a:Ts}{ns:List Int}(h:N0 K H a (ns.map V.int)):Dt K H (.ref a) (QB ns):=.lst h (Pc ns)
def O0:∀ns:List Int,PyData.canLayAll0 (ns.map PyData.int)=true
 |[]=>rfl
 |n::r=>by
  show(true&&PyData.canLayAll0 (r.map PyData.int))=true;rw[O0 r];rfl
end
def NX.turnedS{X:Cx}{pins:List (Ts×Obj)}{σ:St}{H H':Hp}{s:Tu}{h':Heap}{t':Nat}{ch:List Ts}(I:NX X pins σ H s)(hf:∀b∈ch,m5 X pins H b)
  (k:∀b o,b∉ch->s.heap.get? b=some o->h'.get? b=some o) (hH:∀b o,H b=some o->H' b=some o) (hN:∀b,b<s.heap.objs.size->H b=none->H' b=none)
  (new:∀b o,H b=none->H' b=some o->N7 X.prog X.w H' h' b o):NX X pins σ H' {s with heap:=h',toks:=t'}:=by
 refine I.step (g':=s.gens) (d':=s.drawn) (ch:=ch) (fun b hb=>?_) (fun b o _ _ hc e _=>k b o hc e) (fun b o _ _ hc e _=>⟨o.slots,k b o hc e⟩) (fun b o _ e n=>hN b (Ka e) n)
  (fun b o hc e=>⟨o,k b o hc e⟩) (fun b xs e=>hH b _ e) (fun b o u e=>hH b _ e) (fun b ps e=>⟨#[],by rw[hH b _ e];simp⟩) (fun m hm=>?_) (fun b u e=>?_) I.bare
 ·obtain⟨_,f1,_,f3,f4,f5⟩:=hf b hb;exact⟨f3,f1,f4,f5⟩
 ·obtain⟨o,es,ep,ho,r⟩:=hm;exact⟨o,es,ep,k _ o (fun z=>(hf _ z).2.1 rfl) ho,r⟩
 ·cases q:H b with
  |none=>exact new b u q e
  |some v=>
   rw[hH b v q]at e;cases e;refine(I.hok b u q).stay (fun c v hc q'=>k c v (fun z=>?_) q') (fun c q'=>hH c _ q') fun c xs q'=>hH c _ q';have n:=(hf c z).1;rcases hc with rfl|hc
   ·rw[q]at n;cases n
   ·rw[hc]at n;cases n
section
def ym:bootBuiltins "zip"=some (.type "zip"):=by decide +kernel
end
section
def ef(hg:Gl X x)(hm:X.mg x=none)(hv:bootBuiltins x=some (.type n))(hn:x≠"__name__":=by decide)(hd:(x==("__debug__":Str))=false:=by decide):PE X (.Name x pos) (tC (.ty n)):=
 Bk hg hm hv rfl hn hd
def nS:∀{kvs:List (Str×V)}{es:List DictEntry},Paired (yl w) kvs es->∃vs:List (Str×Tr),Pairs (strKind P w) es vs/\vs.map (·.1)=kvs.map (·.1)
 |_,_,.nil=>⟨[],.nil,rfl⟩
 |(x,y)::r,e::es,.cons h t=>by
  obtain⟨vs,p,q⟩:=nS (P:=P) t;obtain⟨h1,⟨tk,h2⟩,h3⟩:=h;refine⟨(x,e.val)::vs,.cons ?_ rfl p,by rw[Kd,Kd,q]⟩;rw[h2];show Value.isStrOf x (.str x tk)=true;simp[Value.isStrOf]
def nU:∀{ks:TH}{us:List Tr},us.length=ks.length->(∀(j:Nat)k u,ks[j]?=some k->us[j]?=some u->(strKind P w).is k u=true)->N2 (ks.map V.str) us
 |[],[],_,_=>.nil
 |k::ks,[],h,_=>by cases h
 |[],u::us,h,_=>by cases h
 |k::ks,u::us,h,hv=>by
  refine .cons ?_ (nU (P:=P) (w:=w) (by simpa using h) fun j k' u' a b=>hv (j+1) k' u' (by simpa using a) (by simpa using b));obtain⟨t,e⟩:=Value.isStrOf_shape (hv 0 k u rfl rfl);exact⟨t,e⟩
def nh(hc:X.calm=true):dJ X (.type "list") (fun xs H Q=>∃a kvs,xs=[.ref a]/\kA X.w X.K a kvs/\(kvs.map (·.1)).Nodup/\(a==sysModules)=false/\kvs.length<=1000/\∀p,H p=none->Q (.ref p) (aI H p (.lst (kvs.map fun kv=>V.str kv.1)))):=by
 walk_at "J";obtain⟨a,kvs,rfl,⟨es,ep,hk,hp⟩,nd,lo,hz,q⟩:=h;cases r with
 |cons r0 rr=>
  cases rr;cases r0;have ho:=I.kIn a _ hk;obtain⟨vs,pv,ek⟩:=nS (P:=X.prog) hp;have hat:s.heap.DictAt (strKind X.prog X.w) a vs ep:=⟨_,es,ho,⟨rfl,rfl,rfl⟩,rfl,fun e VM=>qN hp e (by simpa using VM),pv,by rw[ek];exact nd⟩;have hl:vs.length=kvs.length:=by
   have:=e_ List.length ek;simpa using this
  walk_at "w"
  refine PySem.W.kdl_call (PySem.W.kdl_dict (knd:=strKind X.prog X.w) (kvs:=vs) (ep:=ep) lo) (I.ok.hd hc) hat zo fun h' tk ZN c' ZR hD WN=>?_;have hv:N2 ((kvs.map (·.1)).map V.str) ZN.toList:=by
   refine nU (P:=X.prog) (w:=X.w) (by rw[Lw,WN.1,JY,hl]) fun j k u e1 e2=>?_;obtain⟨k',x',e3,e4⟩:=WN.2 j u (by rw[<-Array.getElem?_toList];exact e2);rw[<-ek,Kl,e3]at e1;have:k'=k:=by simpa using e1
   rw[<-this];exact e4
  have e0:kvs.map (fun kv=>V.str kv.1)=(kvs.map (·.1)).map V.str:=by rw[K2];rfl
  refine⟨.ref s.heap.objs.size,aI H s.heap.objs.size (.lst (kvs.map fun kv=>V.str kv.1)),I.laid (t':=tk) ZR (J2 _) ?_,rfl,q _ (I.hok.fresh (J2 _))⟩;refine⟨by rw[JY];lia,ZN.toList,c',by rw[e0];exact hv,?_⟩;rw[hD]
end
end L2
namespace TK
def gx(c:Nat):Bool:=c==32||c==10
def dD(c:Nat):Bool:=[40,41,123,125,91,93,44,59,43,45,38,124,94,60,61].contains c
def jG:TJ->Nat
 |[]=>0
 |[c]=>if dD c then 1 else 0
 |c::d::_=>if(c==60&&d==60)||(c==62&&d==62)then 2 else if dD c then 1 else 0
def run:TJ->Nat
 |[]=>0
 |c::r=>if gx c||jG (c::r) != 0 then 0 else 1+run r
def eZ(c:Nat):jG [c]=if dD c=true then 1 else 0:=rfl
def eA(c d:Nat)(r:TJ):jG (c::d::r)=if((c==60&&d==60)||(c==62&&d==62))=true then 2 else if dD c=true then 1 else 0:=rfl
def cB(c:Nat)(r:TJ):run (c::r)=if(gx c||jG (c::r) != 0)=true then 0 else 1+run r:=by rw[run]
def oR(l:TJ):jG l<=l.length:=by
 match l with
 |[]=>simp[jG]
 |[c]=>rw[eZ];split<;>simp
 |c::d::r=>rw[eA];split<;>(try split)<;>simp
def oS:∀l:TJ,run l<=l.length
 |[]=>by simp[run]
 |c::r=>by
  have:=oS r;rw[cB];split<;>simp<;>lia
def one(l:TJ):Nat:=if jG l=0 then run l else jG l
def kB(h:gx c=false):0<one (c::r):=by
 unfold one;by_cases e:jG (c::r)=0
 ·rw[g_ e];rw[cB,h,e];simp;lia
 ·rw[f_ e];lia
def Ef(l:TJ):one l<=l.length:=by
 unfold one;split
 ·exact oS l
 ·exact oR l
def kh:Nat->TJ->List (TJ)
 |0,_=>[]
 |_,[]=>[]
 |n+1,c::r=>if gx c then kh n r else(c::r).take (one (c::r))::kh n ((c::r).drop (one (c::r)))
def iD:∀(n m:Nat)(l:TJ),l.length<=n->l.length<=m->kh n l=kh m l
 |0,0,_,_,_=>rfl
 |0,m+1,l,h,_=>by
  have:l=[]:=K9.mp zo;subst this;rfl
 |n+1,0,l,_,h=>by
  have:l=[]:=K9.mp zo;subst this;rfl
 |n+1,m+1,[],_,_=>rfl
 |n+1,m+1,c::r,h1,h2=>by
  simp only[JX]at h1 h2;unfold kh;by_cases g:gx c=true
  ·rw[g_ g,g_ g];exact iD n m r zo zo
  ·rw[f_ g,f_ g];have p:=kB (r:=r) (by simpa using g);rw[iD n m _ (by rw[KU,JX];lia) (by rw[KU,JX];lia)]
def toks(l:TJ):List (TJ):=kh l.length l
def qO:toks []=[]:=rfl
def lK(h:gx c=true):toks (c::r)=toks r:=by
 unfold toks;rw[JX];show(if gx c then kh r.length r else _)=_;rw[g_ h]
def qP(h:gx c=false):toks (c::r)=(c::r).take (one (c::r))::toks ((c::r).drop (one (c::r))):=by
 unfold toks;rw[JX];show(if gx c then _ else(c::r).take (one (c::r))::kh r.length ((c::r).drop (one (c::r))))=_;rw[f_ (by rw[h];decide)];have p:=kB (r:=r) h;rw[iD r.length _ _ (by rw[KU,JX];lia) (J2 _)]
structure Tok(t:TJ):Prop where
 cut:∀s:TJ,(s=[]\/∃c r,s=c::r/\gx c=true)->one (t++s)=t.length
 ne:t≠[]
 ng:∀c∈t,gx c=false
def qQ(h:Tok t)(hs:s=[]\/∃c r,s=c::r/\gx c=true):toks (t++s)=t::toks s:=by
 cases t with
 |nil=>exact absurd rfl h.ne
 |cons c r=>
  have g:=h.ng c JW;have e:=h.cut s hs;rw[K7]at e⊢;rw[qP g,e];have e1:(c::(r++s)).take (c::r).length=c::r:=by rw[<-K7,List.take_left'];rfl
  have e2:(c::(r++s)).drop (c::r).length=s:=by rw[<-K7,List.drop_left'];rfl
  rw[e1,e2]
def uZ:∀(l s:TJ),(s=[]\/∃c r,s=c::r/\gx c=true)->run (l.take (run l)++s)=run l
 |[],s,hs=>by
  rcases hs with rfl|⟨c,r,rfl,g⟩
  ·rfl
  ·show run (c::r)=0;rw[cB,g];simp
 |c::r,s,hs=>by
  by_cases q:(gx c||jG (c::r) != 0)=true
  ·have e:run (c::r)=0:=by rw[cB,g_ q]
   rw[e];rcases hs with rfl|⟨d,r',rfl,g⟩
   ·rfl
   ·show run (d::r')=0;rw[cB,g];simp
  ·have e:run (c::r)=1+run r:=by rw[cB,f_ q]
   rw[e,Nat.add_comm 1,Ry,K7];have ih:=uZ r s hs;simp at q;obtain⟨qg,qs⟩:=q;have q2:(gx c||jG (c::(r.take (run r)++s)) != 0)=false:=by
    rw[qg];simp;have sc:dD c=false:=by
     cases r with
     |nil=>
      rw[eZ]at qs;split at qs
      ·cases qs
      ·rename_i nn;simpa using nn
     |cons d r2=>
      rw[eA]at qs;split at qs
      ·cases qs
      ·split at qs
       ·cases qs
       ·rename_i nn;simpa using nn
    cases hh:r.take (run r)++s with
    |nil=>rw[eZ,sc];rfl
    |cons d r2=>
     rw[eA,sc];have nd:((c==60&&d==60)||(c==62&&d==62))=false:=by
      cases r with
      |nil=>
       rw[List.take_nil,LL]at hh;rcases hs with z|⟨c2,r3,z,g⟩
       ·rw[z]at hh;cases hh
       ·rw[z]at hh;injection hh with h1 _;subst h1;unfold gx at g;simp at g;rcases g with rfl|rfl<;>simp
      |cons d2 r3=>
       by_cases z0:run (d2::r3)=0
       ·rw[z0,List.take_zero,LL]at hh;rcases hs with z|⟨c2,r4,z,g⟩
        ·rw[z]at hh;cases hh
        ·rw[z]at hh;injection hh with h1 _;subst h1;unfold gx at g;simp at g;rcases g with rfl|rfl<;>simp
       ·obtain⟨k,hk⟩:∃k,run (d2::r3)=k+1:=⟨run (d2::r3)-1,zo⟩;rw[hk,Ry,K7]at hh;injection hh with h1 _;subst h1;rw[eA]at qs;split at qs
        ·cases qs
        ·rename_i nn;simpa using nn
     rw[nd];rfl
   rw[show run (c::(r.take (run r)++s))=1+run (r.take (run r)++s)by rw[cB,f_ (by rw[q2];decide)],ih,Nat.add_comm]
def yn:∀(l:TJ),∀c∈l.take (run l),gx c=false
 |[],_,h=>by cases h
 |c::r,d,h=>by
  by_cases q:(gx c||jG (c::r) != 0)=true
  ·rw[cB,g_ q]at h;cases h
  ·rw[cB,f_ q,Nat.add_comm,Ry]at h;rcases J0.mp h with z|z
   ·subst z;simp at q;exact q.1
   ·exact yn r d z
def wF(h:((c==60&&d==60)||(c==62&&d==62))=true):gx c=false/\gx d=false:=by
 simp at h;rcases h with⟨rfl,rfl⟩|⟨rfl,rfl⟩<;>exact⟨rfl,rfl⟩
def wG(h:gx d=true):((c==60&&d==60)||(c==62&&d==62))=false:=by
 unfold gx at h;simp at h;rcases h with rfl|rfl<;>simp
def kC(h:gx c=false):Tok ((c::r).take (one (c::r))):=by
 by_cases e:jG (c::r)=0
 ·have o:one (c::r)=run (c::r):=g_ e;have rp:0<run (c::r):=by rw[<-o];exact kB h
  rw[o];refine⟨fun s hs=>?_,fun z=>?_,yn _⟩
  ·have rc:=uZ (c::r) s hs;have s0:jG ((c::r).take (run (c::r))++s)=0:=by
    cases hh:(c::r).take (run (c::r))++s with
    |nil=>rfl
    |cons d r2=>
     rw[hh,cB]at rc;split at rc
     ·lia
     ·rename_i nn;simp at nn;exact nn.2
   unfold one;rw[g_ s0,rc,J9];have:=oS (c::r);lia
  ·have:=e_ List.length z;rw[J9]at this;have:=oS (c::r);simp at*;lia
 ·have o:one (c::r)=jG (c::r):=f_ e;rw[o];have key:(dD c=true/\jG (c::r)=1)\/∃d r2,r=d::r2/\((c==60&&d==60)||(c==62&&d==62))=true/\jG (c::r)=2:=by
   cases r with
   |nil=>
    rw[eZ]at e⊢;split at e
    ·rename_i nn;exact .inl ⟨nn,by rw[g_ nn]⟩
    ·exact absurd rfl e
   |cons d r2=>
    rw[eA]at e⊢;by_cases nn:((c==60&&d==60)||(c==62&&d==62))=true
    ·exact .inr ⟨d,r2,rfl,nn,by rw[g_ nn]⟩
    ·rw[f_ nn]at e⊢;by_cases n2:dD c=true
     ·exact .inl ⟨n2,by rw[g_ n2]⟩
     ·rw[f_ n2]at e;exact absurd rfl e
  rcases key with⟨sc,se⟩|⟨d,r2,rfl,dd,se⟩
  ·rw[se];refine⟨fun s hs=>?_,by simp,fun x hx=>?_⟩
   ·show one (c::s)=1;have:jG (c::s)=1:=by
     rcases hs with rfl|⟨d,r2,rfl,g⟩
     ·rw[eZ,g_ sc]
     ·rw[eA,wG g,f_ zd,g_ sc]
    unfold one;rw[this];rfl
   ·have:x=c:=by simpa using hx
    rw[this];exact h
  ·rw[se];refine⟨fun s hs=>?_,by simp,fun x hx=>?_⟩
   ·show one (c::d::s)=2;have:jG (c::d::s)=2:=by rw[eA,g_ dd]
    unfold one;rw[this];rfl
   ·have Uk:x=c\/x=d:=by simpa using hx
    rcases Uk with z|z
    ·rw[z];exact h
    ·rw[z];exact(wF dd).2
def jn(sep:TJ):List (TJ)->TJ
 |[]=>[]
 |[t]=>t
 |t::u::r=>t++(sep++jn sep (u::r))
end TK
namespace L2
open PySem PySem.Spec PyProof.Rows
def S(l:TJ):Str:=⟨l.toArray⟩
def aG(l:TJ):(S l).length=l.length:=by show l.toArray.size=_;simp
def Po:S a=S b↔a=b:=⟨fun h=>by
 have:(S a).cps.toList=(S b).cps.toList:=by rw[h]
 simpa[S]using this,fun h=>by rw[h]⟩
def gf(l:TJ)(lo hi:Option Int):TJ:=(l.drop (HT.sIx l.length 0 lo)).take (HT.sIx l.length l.length hi-HT.sIx l.length 0 lo)
def BA(n:Nat)(v:Option Int)(d:Nat)(hd:d<=n):HT.sIx n d v<=n:=by
 cases v with
 |none=>exact hd
 |some i=>
  show(if i<0 then(i+(n:Int)).toNat else min i.toNat n)<=n;split<;>lia
open PySem.Builtin.Str in
def qR(lo hi:Option Int)(n:Nat):strSliceIndices lo hi 1 n=(List.range (HT.sIx n n hi-HT.sIx n 0 lo)).map (HT.sIx n 0 lo+·):=by
 have ZM:∀(v:Option Int)(d:Nat),d<=n->(match v with|none=>(d:Int)|some i=>max 0 (min (if i<0 then i+(n:Int)else i) n))=((HT.sIx n d v:Nat):Int):=fun v d hd=>by
  cases v with
  |none=>rfl
  |some i=>
   show max 0 (min (if i<0 then i+(n:Int)else i) (n:Int))=(((if i<0 then(i+(n:Int)).toNat else min i.toNat n:Nat)):Int);by_cases h:i<0
   ·rw[g_ h,g_ h];lia
   ·rw[f_ h,f_ h];lia
 have c1:=ZM lo 0 (KO _);have c2:=ZM hi n (J2 _);rw[<-sliceRange_one];rw[<-c1,<-c2];unfold strSliceIndices;simp only[show(1:Int)>0 by decide,O_];cases lo<;>cases hi<;>rfl
def lL(l:TJ)(a:Nat):∀k,((List.range k).map (a+·)).filterMap (fun i=>l.toArray[i]?)=(l.drop a).take k
 |0=>by simp
 |k+1=>by
  rw[RV,Kb,List.filterMap_append,lL l a k,Rg]
  congr 1
  rw[List.getElem?_drop];cases q:l[a+k]? with
  |none=>simp[Le,q]
  |some v=>simp[Le,q]
open PySem.Builtin.Str in
def qS(l:TJ)(lo hi:Option Int):(if((1:Int)==1&&(strSliceIndices lo hi 1 (S l).length).length==(S l).length)=true then S l else⟨((strSliceIndices lo hi 1 (S l).length).filterMap ((S l).cps[·]?)).toArray⟩)=S (gf l lo hi):=by
 rw[aG,qR];have e:((List.range (HT.sIx l.length l.length hi-HT.sIx l.length 0 lo)).map (HT.sIx l.length 0 lo+·)).filterMap ((S l).cps[·]?)=gf l lo hi:=lL l _ _;rw[e];by_cases c:((1:Int)==1&&((List.range (HT.sIx l.length l.length hi-HT.sIx l.length 0 lo)).map (HT.sIx l.length 0 lo+·)).length==l.length)=true
 ·rw[g_ c];simp at c;have h2:=BA l.length hi l.length (J2 _);have:gf l lo hi=l:=by
   unfold gf;by_cases z:l.length=0
   ·have:l=[]:=K9.mp z;subst this;simp
   ·have h0:HT.sIx l.length 0 lo=0:=by lia
    rw[h0,R0,K6 zo]
  rw[this]
 ·rw[f_ c];rfl
section
def lM:HU X (fun x lo hi H Q=>∃l,x=.str (S l)/\l.length<=100000/\Q (.str (S (gf l lo hi))) H):=by
 intro pins s σ H x v vl vu lo hi sl Q I rx hs pl pu h;obtain⟨l,rfl,hz,q⟩:=h;obtain⟨t,rfl⟩:=rx;obtain⟨os,Wm,WA,Wy⟩:=id hs;walk_at "v"
 have lc:(S (gf l lo hi)).length<=sizeLine:=by
  rw[aG];unfold gf;rw[J9,KU];lia
 refine⟨"str",_,F.slot_str_getitem.lookup,Rl _ _ _,?_⟩;have F':∀(a b:Option (Int×Tok)),a.map (·.1)=lo->b.map (·.1)=hi->s.heap.IsSlice sl a b none->wpAny (model X.prog X.w) X.A (getItem (.str (S l) t) (.ref sl)) (EP X pins σ Q) X.xe s:=fun a b ea eb hS=>by
  refine wpAny_getItem_str_slice hS rfl ?_;unfold sliceMade slicePicked;rw[ea,eb];refine post_val_or_str ?_;show(if((1:Int)==1&&(Builtin.Str.strSliceIndices lo hi 1 (S l).length).length==(S l).length)=true then S l else⟨((Builtin.Str.strSliceIndices lo hi 1 (S l).length).filterMap ((S l).cps[·]?)).toArray⟩).length<=sizeLine/\∀t' k,EP X pins σ Q (.str (if((1:Int)==1&&(Builtin.Str.strSliceIndices lo hi 1 (S l).length).length==(S l).length)=true then S l else⟨((Builtin.Str.strSliceIndices lo hi 1 (S l).length).filterMap ((S l).cps[·]?)).toArray⟩) t') {s with toks:=k};rw[qS];exact⟨lc,fun t' k=>⟨.str (S (gf l lo hi)),H,I.tok _,⟨t',rfl⟩,q⟩⟩
 cases pl with
 |none=>
  cases pu with
  |none=>exact F' none none rfl rfl ⟨os,Wm,WA,Wy⟩
  |int j u=>exact F' none (some (j,u)) rfl rfl ⟨os,Wm,WA,Wy⟩
 |int i u0=>
  cases pu with
  |none=>exact F' (some (i,u0)) none rfl rfl ⟨os,Wm,WA,Wy⟩
  |int j u=>exact F' (some (i,u0)) (some (j,u)) rfl rfl ⟨os,Wm,WA,Wy⟩
def gU(c:Nat)(l:TJ):(!(Builtin.Str.occurrences (S l) (S [c]) 0 (S l).length 1).isEmpty)=decide (c∈l):=by
 rw[La,StrLaws.found_iff,P_];constructor
 ·rintro⟨i,hi,e⟩;rw[aG,aG]at hi;have Yl:i<l.length:=by simp at hi;lia
  unfold Builtin.Str.subAt at e;have e':l.toArray.extract i (i+1)=#[c]:=eq_of_beq e;have:(l.drop i).take 1=[c]:=by
   have:=e_ Array.toList e';simpa[List.extract_eq_drop_take]using this
  have hm:c∈(l.drop i).take 1:=by rw[this];simp
  exact List.mem_of_mem_drop (Ln hm)
 ·intro h;obtain⟨i,hi,e⟩:=Rz h;refine⟨i,by rw[aG,aG];simp;lia,?_⟩;unfold Builtin.Str.subAt;have:l.toArray.extract i (i+1)=#[c]:=by
   apply Array.toList_inj.mp;rw[Array.toList_extract];simp[List.extract_eq_drop_take,KP hi,e]
  show(l.toArray.extract i (i+1) == #[c])=true;rw[this];exact beq_self_eq_true _
inductive Dm(tb:TE)(σ:St)(Q:VK)(x:V)(H1:Hp):Prop
 |mk(l:_):x=.str (S l)->l.length<=100000->(if l=[]then tb σ H1 Q else Q (.str (S l)) H1)->Dm tb σ Q x H1
def IG(ta tb:TE):TE:=fun σ H Q=>ta σ H fun x H1=>Dm tb σ Q x H1
def Eg{a b:Expr}{j':List Expr}{pos:Pos}{ta tb:TE}(ha:PE X a ta)(hb:PE X (.BoolOp .Or (b::j') pos) tb):PE X (.BoolOp .Or (a::b::j') pos) (IG ta tb):=by
 walk_at "p";refine BoolOp_or (bH (ha pins s σ H _ I h) fun v s1 hZZ=>?_);walk_at "I";obtain⟨l,rfl,hz,q1⟩:=q1;obtain⟨t,rfl⟩:=r1;refine PySem.P.truthy_str (by rw[aG];lia) ?_;rw[aG];by_cases e:l=[]
 ·subst e;rw[g_ rfl]at q1;exact hb pins _ σ H1 Q (I1.tok _) q1
 ·rw[f_ e]at q1;have:((l.length:Int) != 0)=true:=by
   have:l.length≠0:=fun z=>e (K9.mp z);simp;exact e
  rw[this];exact⟨.str (S l),H1,I1.tok _,⟨t,rfl⟩,q1⟩
def i9:∀{ys:TH}{us:List Tr},N2 (ys.map V.str) us->StrsAre us ys
 |[],_,.nil=>.nil
 |n::r,_,.cons h t=>by
  obtain⟨tk,rfl⟩:=h;exact .cons n tk (i9 t)
def yo(sep:TJ)(ts:List (TJ)):Txt.join (S sep) (ts.map S)=S (TK.jn sep ts):=by
 have go:∀(r:List (TJ))(UE:TJ),(r.map S).foldl (fun UE p=>UE++(S sep).cps++p.cps) UE.toArray=(UE++(r.map (sep++·)).flatten).toArray:=by
  intro r;induction r with
  |nil=>intro UE;simp
  |cons t r ih=>
   intro UE;rw[Kd,List.foldl_cons];have:UE.toArray++(S sep).cps++(S t).cps=(UE++sep++t).toArray:=by simp[S]
   rw[this,ih];simp
 have fl:∀(t:TJ)(r:List (TJ)),TK.jn sep (t::r)=t++(r.map (sep++·)).flatten:=by
  intro t r;induction r generalizing t with
  |nil=>simp[TK.jn]
  |cons u r ih=>
   show t++(sep++TK.jn sep (u::r))=_;rw[ih u];simp
 cases ts with
 |nil=>rfl
 |cons t r=>
  show(⟨((t::r).map S |>.drop 1).foldl (fun UE p=>UE++(S sep).cps++p.cps) (((t::r).map S).headD Str.empty).cps⟩:Str)=_;rw[fl];have:=go r t;show(⟨(r.map S).foldl (fun UE p=>UE++(S sep).cps++p.cps) t.toArray⟩:Str)=_;rw[this];rfl
def eB:F9 X "str.join" (fun x xs H Q=>∃sep a ts,x=.str (S sep)/\xs=[.ref a]/\N0 X.K H a (ts.map fun t=>V.str (S t))/\(ts.map List.length).sum+ts.length*sep.length<=100000/\Q (.str (S (TK.jn sep ts))) H):=by
 intro pins s σ H x xs v us Q I rx rv h;obtain⟨sep,a,ts,rfl,rfl,hS,hz,q⟩:=h;obtain⟨t,rfl⟩:=rx;obtain⟨u,rfl,ru⟩:=rv.one;cases ru;obtain⟨f',r,pl,hz2⟩:=I.list hS;have e:(ts.map fun t=>V.str (S t))=(ts.map S).map V.str:=by rw[K2];rfl
 rw[e]at r;refine join_list pl.isList (ys:=ts.map S) (by simpa using i9 r) ?_ fun t' k=>?_
 ·have:((ts.map S).map (·.length)).sum=(ts.map List.length).sum:=by
   rw[K2]
   congr 1
  rw[this,JY,aG];lia
 ·rw[yo];exact⟨.str (S (TK.jn sep ts)),H,I.tok _,⟨t',rfl⟩,q⟩
end
def qT(c d:Nat):∀Xc:TH,(Str.join ⟨#[c]⟩ Xc).length=(Str.join ⟨#[d]⟩ Xc).length
 |[]=>rfl
 |[p]=>rfl
 |p::q::r=>by
  have ih:=qT c d (q::r);show(p++⟨#[c]⟩++Str.join ⟨#[c]⟩ (q::r)).cps.size=(p++⟨#[d]⟩++Str.join ⟨#[d]⟩ (q::r)).cps.size;have ih':(Str.join ⟨#[c]⟩ (q::r)).cps.size=(Str.join ⟨#[d]⟩ (q::r)).cps.size:=ih;simp only[Str.cps_append,Array.size_append];rw[ih'];rfl
def yp(x:Str)(c d:Nat):(Txt.replace x ⟨#[c]⟩ ⟨#[d]⟩).length=x.length:=by
 rw[StrLaws.replace_one,qT d c,StrLaws.join_split]
section
def dE:dJ X (.builtin "isinstance") (fun xs H Q=>∃x t b,xs=[x,.ty T]/\i6 X.K H x t/\PySem.W.kitOne X.K t (.type T)=some b/\Q (.bl b) H):=by
 walk_at "J";obtain⟨x,t,b,rfl,ty,e,q⟩:=h;cases r with
 |cons r0 rr=>
  cases rr with
  |cons r1 rr=>
   cases rr;cases r1;exact wz I r0 ty e fun tk=>⟨.bl b,H,I.tok _,rfl,q⟩
def yq:fv X (binaryOp .FloorDiv) (rI (fun _ j=>0<j/\j<18446744073709551616) fun i j=>.int (i / j)):=F8 fun i j _ _ _ _ _ hc q=>by
 have h1:(0:Int)<j:=hc.1;have h2:j<18446744073709551616:=hc.2;refine floordiv_int zo (by rw[RY i zo];exact q) (.inl (PyProof.noPylong_of_log2 ?_));have h3:j.natAbs≠0:=by lia
 have:j.natAbs.log2<64:=(Nat.log2_lt h3).mpr (by show j.natAbs<2^64;lia);lia
def HW(l:TJ):It:=⟨fun i _=>i<l.length,fun i H y H'=>H'=H/\∃h:i<l.length,y=.str (S [l[i]]),fun i _=>l.length<=i⟩
variable{tg:Expr}{K:ZF}{w:Tw}{P:Tv}
def sL(l:TJ)(t:Tok)(it:Ts):oH P w K tg (HW l) [it] it (fun i h=>h.IsStrIter it "str_ascii_iterator" (S l) t i) where
 mem:=by simp
 obj:=fun i h st b hb=>by
  have e:b=it:=by simpa using hb
  subst e;obtain⟨o,e,c,d⟩:=st;exact⟨o,e,fun v z=>by rw[d]at z;cases z⟩
 keep:=fun i h h' st k=>let⟨o,ho,r⟩:=st;⟨o,k it (by simp) o ho,r⟩
 item:=by
  walk_at "r";have UN:i<l.length:=hg;walk_at "x";refine wpAny_pyNext_ascii_item st (c:=l[i]) (by show l.toArray[i]?=_;simp[UN]) fun h' Vi sb=>?_;have I1:NX X pins σ H {s with heap:=h',toks:=s.toks+1}:=I.turned (fun b o hb e=>(sb.2 b hb).trans e) f0 f1 f3 f4 f5;obtain⟨o,e,c,d⟩:=id Vi;exact⟨_,rfl,qC (s:={s with heap:=h',toks:=s.toks+1}) e c d zd ⟨.str (S [l[i]]),H,I1,⟨_,rfl⟩,⟨rfl,UN,rfl⟩,Vi,fun b hb=>(hf b hb).1⟩⟩
 done:=by
  walk_at "r";have UN:l.length<=i:=hg;walk_at "x";exact wpAny_pyNext_ascii_end (I.ok.hd hc) st (by show l.toArray[i]?=_;simp[UN]) fun h' eb=>⟨rfl,I.turned (t':=s.toks) (fun b o hb e=>eb b o hb e) f0 f1 f3 f4 f5⟩
 self:=fun _ _ _ _ _ st h=>wpAny_pyIter_striter_ascii st h
def wH(l:TJ)(t:Tok)(it:Ts):oH P w K tg (HW l) [it] it (fun i h=>h.IsStrIter it "str_iterator" (S l) t i) where
 mem:=by simp
 obj:=fun i h st b hb=>by
  have e:b=it:=by simpa using hb
  subst e;obtain⟨o,e,c,d⟩:=st;exact⟨o,e,fun v z=>by rw[d]at z;cases z⟩
 keep:=fun i h h' st k=>let⟨o,ho,r⟩:=st;⟨o,k it (by simp) o ho,r⟩
 item:=by
  walk_at "r";have UN:i<l.length:=hg;walk_at "x";refine wpAny_pyNext_wide_item st (c:=l[i]) (by show l.toArray[i]?=_;simp[UN]) fun h' Vi sb=>?_;have I1:NX X pins σ H {s with heap:=h',toks:=s.toks+1}:=I.turned (fun b o hb e=>(sb.2 b hb).trans e) f0 f1 f3 f4 f5;obtain⟨o,e,c,d⟩:=id Vi;exact⟨_,rfl,qC (s:={s with heap:=h',toks:=s.toks+1}) e c d zd ⟨.str (S [l[i]]),H,I1,⟨_,rfl⟩,⟨rfl,UN,rfl⟩,Vi,fun b hb=>(hf b hb).1⟩⟩
 done:=by
  walk_at "r";have UN:l.length<=i:=hg;walk_at "x";exact wpAny_pyNext_wide_end (I.ok.hd hc) st (by show l.toArray[i]?=_;simp[UN]) fun h' eb=>⟨rfl,I.turned (t':=s.toks) (fun b o hb e=>eb b o hb e) f0 f1 f3 f4 f5⟩
 self:=fun _ _ _ _ _ st h=>wpAny_pyIter_striter_wide st h
inductive Do(R:It->Hp->Prop)(x:V)(H1:Hp):Prop
 |mk(l:_):x=.str (S l)->R (HW l) H1->Do R x H1
def IH(tl:TE):TI:=fun σ H R=>tl σ H fun x H1=>Do R x H1
def sM{tg l:Expr}{tl:TE}(hl:PE X l tl):PI X tg l (IH tl):=by
 refine⟨?_⟩;intro pins s σ H R I h;refine bH (hl pins s σ H _ I h) fun v s1 hZZ=>?_;walk_at "I";obtain⟨l,e,q⟩:=q1;subst e;obtain⟨t,rfl⟩:=r1;have fp:∀b∈[s1.heap.objs.size],m5 X pins H1 b:=fun b hb=>by
  have e:b=s1.heap.objs.size:=by simpa using hb
  subst e;exact I1.fpOk (J2 _) (I1.hok.fresh (J2 _))
 cases ha:(S l).cps.all (· < 128)
 ·exact wpAny_pyIter_wide ha ⟨s1.heap.objs.size,[s1.heap.objs.size],_,_,H1,rfl,I1.kept (t':=s1.toks) fun b o e=>JQ _ e,wH l t _,⟨_,Ki _ rfl,rfl,rfl⟩,fp,q⟩
 ·exact wpAny_pyIter_ascii ha ⟨s1.heap.objs.size,[s1.heap.objs.size],_,_,H1,rfl,I1.kept (t':=s1.toks) fun b o e=>JQ _ e,sL l t _,⟨_,Ki _ rfl,rfl,rfl⟩,fp,q⟩
def sN(Pv:Nat->TQ->Hp->Prop)(h0:Pv 0 [] H)
  (hl:∀i ys H,i<=l.length->Pv i ys H->ys.length<=sizeLine)
  (hs:∀i ys H(h:i<l.length),Pv i ys H->g (.str (S [l[i]])) (qv ix σ) H fun σ2 H2=>O4 (qv ix σ) σ2/\tf σ2 H2 fun b H3=>if b=true then te σ2 H3 fun y H4=>Nx Pv l.length i (ys++[y]) H4 else Nx Pv l.length i ys H3)
  (hd:∀ys H,Pv l.length ys H->∀D,H D=none->Q (.ref D) (aI H D (.lst ys))) :
  wE (HW l) g tf te ix σ H Q:=by
 refine⟨fun i m ys H=>m=l.length-i/\i<=l.length/\Pv i ys H,⟨l.length,by simp,KO _,h0⟩,?_⟩;rintro i m ys H ⟨rfl,hi,p⟩;have hz:=hl i ys H hi p;by_cases Md:i<l.length
 ·refine .inr ⟨Md,hz,fun x H' y=>?_⟩;obtain⟨e,h,y⟩:=y;subst e y;exact hs i ys _ Md p
 ·have e:i=l.length:=by lia
  subst e;exact .inl ⟨J2 _,hz,hd ys H p⟩
def gF(hc:X.calm=true):dJ X (.builtin "all") (fun xs H Q=>∃(p:Ts)(bs:List Bool),xs=[.ref p]/\N0 X.K H p (bs.map V.bl)/\Q (.bl (bs.all id)) H):=by
 walk_at "J";obtain⟨p,bs,rfl,hS,q⟩:=h;obtain⟨u,rfl,rx⟩:=i5 r;cases rx;obtain⟨f',rv,pl,hz⟩:=I.list hS;have LS:=rv.length;rw[JY]at LS;have Ma:p≠s.heap.objs.size:=by
  obtain⟨o,ho,_⟩:=pl.isList;exact Kq (Ka ho)
 refine call_all_walk (RZ pl.isList ?_);refine⟨s.heap.objs.size,_,_,_,_,_,fun i=>bs.getD i true,rfl,Walks.list (A:=X.A.in1) (I.ok.hd hc) s.heap.objs.size p Ma f'.toArray,⟨⟨_,Ki _ rfl,rfl,rfl⟩,pl.isList.at fun o e=>JQ _ e⟩,?_,?_⟩
 ·intro i v s' Q' E' hv hq;have hv':f'[i]?=some v:=by simpa using hv
  have Md:i<f'.length:=(JV.mp hv').1;have hb:i<bs.length:=by lia
  obtain⟨u,hu,ru⟩:=rv.get (i:=i) (x:=.bl bs[i]) (by simp[hb]);rw[hv']at hu;cases hu;cases ru;refine o_ ?_;have e:bs.getD i true=bs[i]:=by simp[List.getD,hb]
  dsimp only at hq;rw[e]at hq;exact hq
 ·intro h' tk hk;have e:(List.range f'.toArray.size).all (fun i=>bs.getD i true)=bs.all id:=by
   rw[Ks,<-LS,La,KC,KC];constructor
   ·intro z x hx;obtain⟨i,hi,e⟩:=Rz hx;have:=z i (K1.mpr hi);rw[show bs.getD i true=bs[i]by simp[List.getD,hi],e]at this;exact this
   ·intro z i hi;have Yl:=K1.mp hi;rw[show bs.getD i true=bs[i]by simp[List.getD,Yl]];exact z _ (KJ Yl)
  rw[e];exact⟨.bl _,H,I.kept fun b o e=>hk b o (fun z=>absurd (Ka e) (by rw[Kz.mp z];exact K4 _)) (JQ _ e),rfl,q⟩
end
section
variable [DecidableEq κ]
def bx(kvs:List (κ×V))(k:κ):Option V:=(kvs.find? fun kv=>decide (kv.1=k)).map (·.2)
def bC(kvs:List (κ×V))(k:κ)(v:V):List (κ×V):=
 if(kvs.any fun kv=>decide (kv.1=k))=true then kvs.map (fun kv=>if kv.1=k then(kv.1,v)else kv)else kvs++[(k,v)]
def qU:bx ([]:List (κ×V)) k=none:=rfl
variable{p:κ×V}
def cC{r:List (κ×V)}{k:κ}(e:p.1=k):bx (p::r) k=some p.2:=by simp[bx,Ls,e]
def cg{r:List (κ×V)}{k:κ}(e:¬p.1=k):bx (p::r) k=bx r k:=by simp[bx,Ls,e]
def gG(k:κ):∀kvs:List (κ×V),(kvs.any fun kv=>decide (kv.1=k))=(bx kvs k).isSome
 |[]=>rfl
 |p::r=>by
  rw[Lq];by_cases e:p.1=k
  ·simp only[cC e,b_ e,Bool.true_or,Option.isSome_some]
  ·rw[cg e,d_ e,Bool.false_or];exact gG k r
def qV(k j:κ)(y:V):∀kvs:List (κ×V),bx (kvs.map fun kv=>if kv.1=k then(kv.1,y)else kv) j=(bx kvs j).map fun x=>if j=k then y else x
 |[]=>rfl
 |p::r=>by
  have ih:=qV k j y r;rw[Kd];by_cases h:p.1=k
  ·rw[g_ h];by_cases e:p.1=j
   ·rw[cC (p:=(p.1,y)) e,cC e,LO,g_ (e.symm.trans h)]
   ·rw[cg (p:=(p.1,y)) e,cg e,ih]
  ·rw[f_ h];by_cases e:p.1=j
   ·rw[cC (p:=p) e,cC e,LO,f_ (fun z=>h (e.trans z))]
   ·rw[cg (p:=p) e,cg e,ih]
def nV(k j:κ)(y:V):∀kvs:List (κ×V),bx kvs k=none->bx (kvs++[(k,y)]) j=if j=k then some y else bx kvs j
 |[],_=>by
  by_cases e:k=j
  ·rw[g_ e.symm];exact cC (p:=(k,y)) e
  ·rw[f_ (fun z=>e z.symm)];exact cg (p:=(k,y)) e
 |p::r,hn=>by
  rw[K7];have hk:¬p.1=k:=fun z=>by rw[cC z]at hn;cases hn
  rw[cg hk]at hn;have ih:=nV k j y r hn;by_cases e:p.1=j
  ·rw[cC e,cC e,f_ (fun z=>hk (e.trans z))]
  ·rw[cg e,cg e,ih]
def qW(kvs:List (κ×V))(k j:κ)(y:V):bx (bC kvs k y) j=if j=k then some y else bx kvs j:=by
 unfold bC;by_cases a:(kvs.any fun kv=>decide (kv.1=k))=true
 ·rw[g_ a,qV];rw[gG]at a;by_cases e:j=k
  ·obtain⟨x,hx⟩:=Option.isSome_iff_exists.mp a;rw[g_ e,e,hx,LO,g_ rfl]
  ·rw[f_ e];cases bx kvs j with
   |none=>rfl
   |some x=>rw[LO,f_ e]
 ·rw[f_ a];refine nV k j y kvs ?_;rw[gG]at a;cases q:bx kvs k with
  |none=>rfl
  |some x=>rw[q]at a;exact(a rfl).elim
def gH(kvs:List (κ×V))(k:κ)(v:V):(bC kvs k v).length<=kvs.length+1:=by
 unfold bC;split
 ·rw[JY];lia
 ·rw[JU,JX,Ke];lia
variable{kvs:List (κ×V)}
def qX{k:κ}(v:V)(h:bx kvs k=none):bC kvs k v=kvs++[(k,v)]:=by
 unfold bC;rw[gG,h];exact f_ zd
def Ox.isSome_eq(r:Ox o u):o.isSome=u.isSome:=by
 cases o with
 |none=>cases u with
  |none=>rfl
  |some _=>exact(show False from r).elim
 |some _=>cases u with
  |none=>exact(show False from r).elim
  |some _=>rfl
def KV.val{vs:List (κ×Tr)}(r:KV kvs vs)(k:κ):Ox (bx kvs k) (valueAt vs k):=by
 unfold KV at r;induction r with
 |nil=>exact True.intro
 |@cons p q ps qs h t ih=>
  obtain⟨h1,h2⟩:=h;by_cases e:p.1=k
  ·have e':q.1=k:=h1.symm.trans e;have b:valueAt (q::qs) k=some q.2:=by simp[valueAt,Ls,e']
   rw[cC e,b];exact h2
  ·have e':¬q.1=k:=fun z=>e (h1.trans z);have b:valueAt (q::qs) k=valueAt qs k:=by simp[valueAt,Ls,e']
   rw[cg e,b];exact ih
def KV.any(r:KV kvs vs)(k:κ):(kvs.any fun kv=>decide (kv.1=k))=vs.any fun kv=>decide (kv.1=k):=by
 unfold KV at r;induction r with
 |nil=>rfl
 |cons h t ih=>rw[Lq,Lq,ih,h.1]
def KV.repl(r:KV kvs vs)(k:κ)(ry:N3 y u):
  KV (kvs.map fun kv=>if kv.1=k then(kv.1,y)else kv) (vs.map fun kv=>if kv.1=k then(kv.1,u)else kv):=by
 unfold KV at r⊢;induction r with
 |nil=>exact .nil
 |@cons p q ps qs h t ih=>
  rw[Kd,Kd];refine .cons ?_ ih;obtain⟨h1,h2⟩:=h;by_cases e:p.1=k
  ·rw[g_ e,g_ (h1.symm.trans e)];exact⟨h1,ry⟩
  ·rw[f_ e,f_ (fun z=>e (h1.trans z))];exact⟨h1,h2⟩
def KV.put(r:KV kvs vs)(k:κ)(ry:N3 y u):KV (bC kvs k y) (stored vs k u):=by
 unfold bC stored;rw[r.any k];by_cases e:(vs.any fun kv=>decide (kv.1=k))=true
 ·rw[g_ e,g_ e];exact r.repl k ry
 ·rw[f_ e,f_ e];exact Paired.snoc r ⟨rfl,ry⟩
def KV.length(r:KV kvs vs):kvs.length=vs.length:=Paired.length r
end
def nW(r:N3 (kV k) u):(cz P w).is k u=true:=by
 cases k with
 |inl i=>obtain⟨t,e⟩:=(show ∃t,u=Value.int i t from r);subst e;exact qA P w i t
 |inr x=>obtain⟨t,e⟩:=(show ∃t,u=Value.str x t from r);subst e;exact qB P w x t
def nX:∀{ks:List dv}{us:List Tr},N2 (ks.map kV) us->ItemsAre (cz P w) ks us
 |[],_,r=>by rw[Li]at r;cases r;exact .nil
 |k::ks,_,r=>by
  rw[Kd]at r;cases r with
  |cons h t=>exact .cons (nW h) (nX t)
abbrev KT(H:Hp):List (List dv×V)->List (List dv×Ts×Tr)->Prop:=Paired fun p q=>p.1=q.1/\H q.2.1=some (.tup (p.1.map kV))/\N3 p.2 q.2.2
section
variable{H:Hp}
def KT.val{kvs:List (List dv×V)}{xs:List (List dv×Ts×Tr)}(r:KT H kvs xs)(k:List dv):Ox (bx kvs k) ((atKey xs k).map (·.2)):=by
 induction r with
 |nil=>exact True.intro
 |@cons p q ps qs h t ih=>
  obtain⟨h1,_,h2⟩:=h;by_cases e:p.1=k
  ·have e':q.1=k:=h1.symm.trans e;have b:atKey (q::qs) k=some q.2:=by simp[atKey,Ls,e']
   rw[cC e,b];exact h2
  ·have e':¬q.1=k:=fun z=>e (h1.trans z);have b:atKey (q::qs) k=atKey qs k:=by simp[atKey,Ls,e']
   rw[cg e,b];exact ih
def KT.repl(r:KT H kvs xs)(k:List dv)(ry:N3 y u):
  KT H (kvs.map fun kv=>if kv.1=k then(kv.1,y)else kv) (xs.map (putAt k u)):=by
 induction r with
 |nil=>exact .nil
 |@cons p q ps qs h t ih=>
  rw[Kd,Kd];refine .cons ?_ ih;obtain⟨h1,h2,h3⟩:=h;unfold putAt;by_cases e:p.1=k
  ·rw[g_ e,g_ (h1.symm.trans e)];exact⟨h1,h2,ry⟩
  ·rw[f_ e,f_ (fun z=>e (h1.trans z))];exact⟨h1,h2,h3⟩
def KT.put(r:KT H kvs xs)(k:List dv)(hb:H b=some (.tup (k.map kV)))(ry:N3 y u):
  KT H (bC kvs k y) (storedH xs k b u):=by
 have e:(kvs.any fun kv=>decide (kv.1=k))=(atKey xs k).isSome:=by
  rw[gG,(r.val k).isSome_eq,RG]
 unfold bC storedH;rw[e];by_cases q:(atKey xs k).isSome=true
 ·rw[g_ q,g_ q];exact r.repl k ry
 ·rw[f_ q,f_ q];exact Paired.snoc r ⟨rfl,hb,ry⟩
def KT.keeps(r:KT H kvs xs)(ht:∀b ys,H b=some (.tup ys)->H' b=some (.tup ys)):KT H' kvs xs:=
 Paired.mapP r fun _ _ z=>⟨z.1,ht _ _ z.2.1,z.2.2⟩
section
def Dp(ok:Oo P w H h)(e:Rd H a u):N7 P w H h a u:=e.ok ok
def qY(ok:Oo P w H h)(e:Rd H a (.dK kvs)):kvs.length<=sizeLine/\(a==sysModules)=false/\∃vs,KV kvs vs/\h.DictOf (cz P w) a vs:=
 show N7 P w H h a (.dK kvs)from Dp ok e
def yr(ok:Oo P w H h)(e:H a=some (.dK kvs)):kvs.length<=sizeLine/\(a==sysModules)=false/\∃vs,KV kvs vs/\h.DictOf (cz P w) a vs:=qY ok (.inl e)
def lN(ok:Oo P w H h)(e:H a=some (.tup (ks.map kV))):(tupleKind (cz P w)).is h ks a:=by
 obtain⟨_,f',r,o,h1,h2,n,h3⟩:=(show N7 P w H h a (.tup (ks.map kV))from ok a _ e);exact⟨o,f'.toArray,n,h1,(Rt h2).1,h3,by simpa using nX r⟩
def qZ(ok:Oo P w H h)(e:Rd H a (.dT kvs)):kvs.length<=sizeLine/\(a==sysModules)=false /\
  ∃xs,KT H kvs xs/\h.DictOfH (tupleKind (cz P w)) a xs:=by
 obtain⟨z,y,xs,r,o,es,ep,h1,h2,h3,h4,h5⟩:=(show N7 P w H h a (.dT kvs)from Dp ok e);refine⟨z,y,xs,r,o,es,ep,h1,h2,h3,h4,fun x hx=>?_,h5⟩;have all:∀{l:List (List dv×V)}{m:List (List dv×Ts×Tr)},KT H l m->∀x∈m,(tupleKind (cz P w)).is h x.1 x.2.1:=by
  intro l m q;induction q with
  |nil=>intro x hx;exact nomatch hx
  |@cons p q ps qs hq t ih=>
   intro x hx;rcases J0.mp hx with e|hx
   ·subst e;exact lN ok (by rw[<-hq.1];exact hq.2.1)
   ·exact ih x hx
 exact all r x hx
def GG(ok:Oo P w H h)(e:H a=some (.dT kvs)):kvs.length<=sizeLine/\(a==sysModules)=false /\
  ∃xs,KT H kvs xs/\h.DictOfH (tupleKind (cz P w)) a xs:=qZ ok (.inl e)
end
def Oz(H:Hp)(a:Ts)(y:V)(r:Option V):Prop:=
 (∃kvs k,Rd H a (.dK kvs)/\y=kV k/\r=bx kvs k)\/∃kvs k b,Rd H a (.dT kvs)/\y=.ref b/\H b=some (.tup (k.map kV))/\r=bx kvs k
def O6(H:Hp)(a:Ts)(y v:V)(H':Hp):Prop:=
 (∃kvs k,H a=some (.dK kvs)/\y=kV k/\kvs.length<sizeLine/\H'=aI H a (.dK (bC kvs k v))) ∨
 ∃kvs k b,H a=some (.dT kvs)/\y=.ref b/\H b=some (.tup (k.map kV))/\kvs.length<sizeLine/\H'=aI H a (.dT (bC kvs k v))
variable{kvs:List (dv×V)}{a:Ts}
def Oz.k{k:dv}(e:H a=some (.dK kvs)):Oz H a (kV k) (bx kvs k):=.inl ⟨kvs,k,.inl e,rfl,rfl⟩
def O6.k{k:dv}{v:V}(e:H a=some (.dK kvs))(hl:kvs.length<sizeLine):O6 H a (kV k) v (aI H a (.dK (bC kvs k v))):=.inl ⟨kvs,k,e,rfl,hl,rfl⟩
section
def NX.big(I:NX X pins σ H s):sysModules<s.heap.objs.size:=by
 have h:mainGlobals<s.heap.objs.size:=(I.mod.glob.keeps I.bk).lt;exact Nat.lt_trans zd h
def wI(hu:A.units+1<cLine)(I:NX X pins σ H s)(g:Oz H a y (some v))(ry:N3 y u)(h:∀w' s',NX X pins σ H s'->N3 v w'->Q w' s'):
  wpAny (model X.prog X.w) A (getItem (.ref a) u) Q E s:=by
 rcases g with⟨kvs,k,e,ey,l⟩|⟨kvs,k,b,e,ey,eb,l⟩
 ·subst ey;obtain⟨z,hd,vs,Ue,dd⟩:=qY I.hok e;obtain⟨w',hw,VP⟩:=Ox.some_of (v:=v) (o:=valueAt vs k) (by rw[l];exact Ue.val k);exact wpAny_getItem_of (nW ry) dd.mapOf hw (h w' _ (I.tok _) VP)
 ·subst ey;cases(show u=Value.ref b from ry);obtain⟨z,hd,xs,Ue,dd⟩:=qZ I.hok e;obtain⟨w',hw,VP⟩:=Ox.some_of (v:=v) (o:=(atKey xs k).map (·.2)) (by rw[l];exact Ue.val k);obtain⟨p,hp,VT⟩:=Option.map_eq_some_iff.mp hw;refine wpAny_getItem_heap (Ri hu) (lN I.hok eb) dd hp ?_;rw[VT];exact h w' _ (I.tok _) VP
def II(hu:A.units+1<cLine)(I:NX X pins σ H s)(g:Oz H a y o)(ry:N3 y u)(h:∀s',NX X pins σ H s'->Q (.bool o.isSome) s'):
  wpAny (model X.prog X.w) A (compareOp .In u (.ref a)) Q E s:=by
 rcases g with⟨kvs,k,e,ey,l⟩|⟨kvs,k,b,e,ey,eb,l⟩
 ·subst ey;obtain⟨z,hd,vs,Ue,dd⟩:=qY I.hok e;refine wpAny_in_of (nW ry) hd dd.mapOf ?_;rw[<-(Ue.val k).isSome_eq,<-l];exact h _ (I.tok _)
 ·subst ey;cases(show u=Value.ref b from ry);obtain⟨z,hd,xs,Ue,dd⟩:=qZ I.hok e;refine wpAny_in_heap (Ri hu) (lN I.hok eb) hd dd ?_;have q:=(Ue.val k).isSome_eq;rw[RG]at q;rw[<-q,<-l];exact h _ (I.tok _)
def BB(hu:A.units+1<cLine)(I:NX X pins σ H s)(g:Oz H a y o)(ry:N3 y u)(h:∀s',NX X pins σ H s'->Q (.bool (!o.isSome)) s'):
  wpAny (model X.prog X.w) A (compareOp .NotIn u (.ref a)) Q E s:=by
 rcases g with⟨kvs,k,e,ey,l⟩|⟨kvs,k,b,e,ey,eb,l⟩
 ·subst ey;obtain⟨z,hd,vs,Ue,dd⟩:=qY I.hok e;refine wpAny_notIn_of (nW ry) hd dd.mapOf ?_;rw[<-(Ue.val k).isSome_eq,<-l];exact h _ (I.tok _)
 ·subst ey;cases(show u=Value.ref b from ry);obtain⟨z,hd,xs,Ue,dd⟩:=qZ I.hok e;refine wpAny_notIn_heap (Ri hu) (lN I.hok eb) hd dd ?_;have q:=(Ue.val k).isSome_eq;rw[RG]at q;rw[<-q,<-l];exact h _ (I.tok _)
def oU(I:NX X pins σ H s)(mu:Gc (H a))(hs:Heap.SameBut a s.heap h')(he:∃q,h'.get? a=some q)(new:N7 X.prog X.w (aI H a ob) h' a ob):
  NX X pins σ (aI H a ob) {s with heap:=h',toks:=t'}:=
 I.write (x:=a) (e:=a) mu (.inl rfl) (fun b q hb z=>(hs.2 b hb).trans z) he new
def sO(z:kvs.length<=sizeLine)(hd:(a==sysModules)=false)(Ue:KV kvs vs)(dd:h'.DictOf (cz P w) a vs):
  N7 P w H' h' a (.dK kvs):=⟨z,hd,vs,Ue,dd⟩
def wJ(hu:A.units+1<cLine)(I:NX X pins σ H s)(g:O6 H a y v H')(ry:N3 y u)(rv:N3 v r)(h:∀s',NX X pins σ H' s'->Q () s'):
  wpAny (model X.prog X.w) A (setItem (.ref a) u r) Q E s:=by
 rcases g with⟨kvs,k,e,ey,l,eH⟩|⟨kvs,k,b,e,ey,eb,l,eH⟩
 ·subst ey eH;obtain⟨z,hd,vs,Ue,dd⟩:=yr I.hok e;have hz:vs.length<=sizeLine:=by rw[<-Ue.length];exact z
  have hl:(bC kvs k v).length<=sizeLine:=by have:=gH kvs k v;lia
  refine wpAny_setItem_pairs (hsz:=hz) (nW ry) dd fun h' V0 hs=>h _ ?_;have he:∃q,h'.get? a=some q:=let⟨q,_,_,hq,_⟩:=V0;⟨q,hq⟩;exact oU I (by rw[e];exact True.intro) hs he (sO hl hd (Ue.put k rv) V0)
 ·subst ey eH;cases(show u=Value.ref b from ry);obtain⟨z,hd,xs,Ue,dd⟩:=GG I.hok e;have hz:xs.length<=sizeLine:=by rw[<-Paired.length Ue];exact z
  have hl:(bC kvs k v).length<=sizeLine:=by have:=gH kvs k v;lia
  refine wpAny_setItem_heap (hsz:=hz) (Ri hu) (lN I.hok eb) dd fun h' V0 hs=>h _ ?_;obtain⟨q,es,ep,hq,h2,h3,h4,_,h5⟩:=V0;refine oU I (by rw[e];exact True.intro) hs ⟨q,hq⟩ ⟨hl,hd,_,(Ue.put k eb rv).keeps fun c ys ec=>?_,q,es,ep,hq,h2,h3,h4,h5⟩;rw[am (dz ec e (fun z=>nomatch z))];exact ec
end
def GH(i:Expr):Prop:=∀ov iv,subscripted i false ov iv=operate [ov,iv] (getItem ov iv)
def BC{prog:Tv}{w:Tw}{A:Tz}{E:Tr->Tu->Prop}{s:Tu}{env:Env}{value T0:Expr}{pos:Pos}{T id:String}{Q:Tr->Tu->Prop}
  (hl:typeLookup (.type T) "__getitem__"=pure (some (.builtin id))) (hs:GH T0)
  (h:wpAny (model prog w) A (eval value env) (fun o s₁=>wpAny (model prog w) A (eval T0 env) (fun i s₂=>s₂.TypeIs o T/\wpAny (model prog w) A (getItem o i) Q E s₂) E s₁) E s) :
  wpAny (model prog w) A (eval (.Subscript value T0 pos) env) Q E s:=by
 refine Subscript_ (m_ h (fun o s₁ h₁=>m_ h₁ (fun i s₂ h₂=>?_) fun _ _ x=>x) fun _ _ x=>x);obtain⟨hT,h₂⟩:=h₂;unfold subscriptTail;refine a_ ?_;rw[getitemInPython_of_ne hT.not_modules];refine a_ (wpAny_specialOf hT hl ?_);have F':wpAny (model prog w) A (subscripted T0 false o i) (fun r s₃=>wpAny (model prog w) A (letTemporaryGo value o r>>=fun _=>pure r) Q E s₃) E s₂:=by
  rw[hs o i];exact wpAny_operating (m_ h₂ (fun r s₃ h₃=>a_ (wpAny_letTemporaryGo (c_ h₃))) fun _ _ x=>x)
 first
  |exact c_ (a_ F')
  |exact a_ (c_ (a_ F'))
  |exact a_ F'
def rf(I:NX X pins σ H s)(g:Oz H a y o):s.TypeIs (.ref a) "dict":=by
 rcases g with⟨kvs,k,e,_,_⟩|⟨kvs,k,b,e,_,_,_⟩
 ·obtain⟨_,_,vs,_,dd⟩:=qY I.hok e;exact dd.typeIs
 ·obtain⟨_,_,xs,_,dd⟩:=qZ I.hok e;exact dd.typeIs
inductive yt(Q:VK)(x:V)(y:V)(H2:Hp):Prop
 |mk(a v:_):x=.ref a->Oz H2 a y (some v)->Q v H2->yt Q x y H2
def GI(td ty:TE):TE:=fun σ H Q=>td σ H fun x H1=>ty σ H1 fun y H2=>yt Q x y H2
inductive Dq(Q:VK)(y:V)(x:V)(H2:Hp):Prop
 |mk(a o:_):x=.ref a->Oz H2 a y o->Q (.bl o.isSome) H2->Dq Q y x H2
def IJ(ty td:TE):TE:=fun σ H Q=>ty σ H fun y H1=>td σ H1 fun x H2=>Dq Q y x H2
inductive rh(Q:VK)(y:V)(x:V)(H2:Hp):Prop
 |mk(a o:_):x=.ref a->Oz H2 a y o->Q (.bl (!o.isSome)) H2->rh Q y x H2
def BE(ty td:TE):TE:=fun σ H Q=>ty σ H fun y H1=>td σ H1 fun x H2=>rh Q y x H2
inductive yu(D:Ow)(σ:St)(v:V)(x:V)(y:V)(H3:Hp):Prop
 |mk(a H4:_):x=.ref a->O6 H3 a y v H4->D.nx σ H4->yu D σ v x y H3
def GJ(td ty tv:TE):TS:=fun D σ H=>tv σ H fun v H1=>td σ H1 fun x H2=>ty σ H2 fun y H3=>yu D σ v x y H3
section
def aZ(hu:X.A.units+1<cLine)(ho:PE X o td)(hi:PE X i ty)(hs:GH i:=by intro _ _;rfl):PE X (.Subscript o i pos) (GI td ty):=by
 walk_at "p";refine BC PySem.F.slot_dict_getitem.lookup hs (bH (ho pins s σ H _ I h) fun u s1⟨x,H1,I1,rx,q1⟩=>bH (hi pins s1 σ H1 _ I1 q1) fun iv s2 hZZ=>?_);obtain⟨y,H2,I2,ry,a,v,ex,g,q2⟩:=hZZ;subst ex;obtain rfl:u=Value.ref a:=rx;exact⟨rf I2 g,wI hu I2 g ry fun w' s3 I3 VP=>⟨v,H2,I3,VP,q2⟩⟩
def yw(hu:X.A.units+1<cLine)(hi:PE X i ty)(ho:PE X o td):PC X .In i o (IJ ty td):=by
 intro pins s σ H Q I h;refine bH (hi pins s σ H _ I h) fun iv s1⟨y,H1,I1,ry,q1⟩=>bH (ho pins s1 σ H1 _ I1 q1) fun u s2 hZZ=>?_;obtain⟨x,H2,I2,rx,a,ov,ex,g,q2⟩:=hZZ;subst ex;obtain rfl:u=Value.ref a:=rx;exact II hu I2 g ry fun s3 I3=>⟨.bl ov.isSome,H2,I3,rfl,q2⟩
def wK(hu:X.A.units+1<cLine)(hi:PE X i ty)(ho:PE X o td):PC X .NotIn i o (BE ty td):=by
 intro pins s σ H Q I h;refine bH (hi pins s σ H _ I h) fun iv s1⟨y,H1,I1,ry,q1⟩=>bH (ho pins s1 σ H1 _ I1 q1) fun u s2 hZZ=>?_;obtain⟨x,H2,I2,rx,a,ov,ex,g,q2⟩:=hZZ;subst ex;obtain rfl:u=Value.ref a:=rx;exact BB hu I2 g ry fun s3 I3=>⟨.bl (!ov.isSome),H2,I3,rfl,q2⟩
def gW(hu:X.A.units+1<cLine)(ho:PE X o td)(hi:PE X i ty)(hv:PE X value tv)(hs:swapsWith value (some (.Subscript o i P')) pos.line X.env=pure false):
  PS X (.Assign [.Subscript o i P'] value pos) (GJ td ty tv):=by
 walk_at "u";refine wpAny_Assign_Subscript (bH (hv pins s σ H _ I h) fun r s1⟨v,H1,I1,rv,q1⟩=>bH (ho pins s1 σ H1 _ I1 q1) fun u s2⟨x,H2,I2,rx,q2⟩=>bH (hi pins s2 σ H2 _ I2 q2) fun iv s3 hZZ=>?_) hs;obtain⟨y,H3,I3,ry,a,H4,ex,g,q3⟩:=hZZ;subst ex;obtain rfl:u=Value.ref a:=rx;exact wJ hu I3 g ry rv fun s4 I4=>⟨σ,H4,I4,q3⟩
end
def rj(h:Heap)(hb:sysModules<h.objs.size):N7 P w H (h.push {cls:=.type "dict",data:=.dict #[]}) h.objs.size (.dK []):=
 ⟨KO _,beq_eq_false_iff_ne.mpr (K_ (Kq hb)),[],.nil,Heap.DictOf.new h⟩
def Eh:TE:=fun _ H Q=>∀p,H p=none->Q (.ref p) (aI H p (.dK []))
section
def rl:PE X (.Dict [] [] pos) Eh:=⟨fun pins s σ H Q I h=>
 wpAny_Dict_empty ⟨.ref s.heap.objs.size,_,I.laid (a:=s.heap.objs.size) (o:=.dK []) (t':=s.toks) (fun _ _ q=>JQ _ q) (J2 _) (rj s.heap I.big),rfl,h _ (I.hok.fresh (J2 _))⟩⟩
end
def sP:List (TE×TE)->St->Hp->(List (V×V)->Hp->Prop)->Prop
 |[],_,H,Q=>Q [] H
 |(tk,tv)::r,σ,H,Q=>tk σ H fun x H1=>tv σ H1 fun y H2=>sP r σ H2 fun ps H3=>Q ((x,y)::ps) H3
abbrev VV:List (V×V)->List (Tr×Tr)->Prop:=Paired fun p q=>N3 p.1 q.1/\N3 p.2 q.2
def HX(X:Cx)(pos:Pos)(Vc:List (Option Expr))(UJ:List Expr)(Xh:List (TE×TE)):Prop:=
 ∀(pins:List (Ts×Obj))(s:Tu)(σ:St)(H:Hp)(Q:List (V×V)->Hp->Prop),NX X pins σ H s->sP Xh σ H Q->
  wpAny (model X.prog X.w) X.A (evalPairs (pairTrees Vc UJ X.env pos)) (fun vs s'=>∃ps H',NX X pins σ H' s'/\VV ps vs/\Q ps H') X.xe s
def u9:HX X pos [] [] []:=fun pins s σ H Q I h=>pairTrees_nil_walk ⟨[],H,I,.nil,h⟩
def ja(hk:PE X k tk)(hv:PE X v tv)(hr:HX X pos ks vs Xh):
  HX X pos (some k::ks) (v::vs) ((tk,tv)::Xh):=fun pins s σ H Q I h=>
 pairTrees_cons_walk (bH (hk pins s σ H _ I h) fun u s1⟨x,H1,I1,rx,q1⟩=>bH (hv pins s1 σ H1 _ I1 q1) fun w2 s2⟨y,H2,I2,ry,q2⟩=>
  bH (hr pins s2 σ H2 _ I2 q2) fun ws s3⟨ps,H3,I3,Ue,q3⟩=>⟨(x,y)::ps,H3,I3,.cons ⟨rx,ry⟩ Ue,q3⟩)
def gh(kvs more:List (dv×V)):List (dv×V):=more.foldl (fun UE kv=>bC UE kv.1 kv.2) kvs
def KV.merge:∀{more:List (dv×V)}{rs:List (dv×Tr)}{kvs:List (dv×V)}{vs:List (dv×Tr)},KV more rs->KV kvs vs->KV (gh kvs more) (merged vs rs):=by
 intro more rs kvs vs r;unfold KV at r;induction r generalizing kvs vs with
 |nil=>intro q;exact q
 |@cons p q ps qs h t ih=>
  intro r0;have e:KV (bC kvs p.1 p.2) (stored vs q.1 q.2):=by
   have:=r0.put p.1 h.2;rw[<-h.1];exact this
  exact ih e
def fk:∀(more kvs:List (dv×V)),(gh kvs more).length<=kvs.length+more.length
 |[],kvs=>by show kvs.length<=kvs.length+0;lia
 |p::r,kvs=>by
  have h1:=fk r (bC kvs p.1 p.2);have h2:=gH kvs p.1 p.2;show(gh (bC kvs p.1 p.2) r).length<=_;rw[JX];lia
def lO:∀{kvs:List (dv×V)}{ws:List (Tr×Tr)},VV (kvs.map fun kv=>(kV kv.1,kv.2)) ws->∃rs,Carries (cz P w) ws rs/\KV kvs rs
 |[],_,r=>by rw[Li]at r;cases r;exact⟨[],True.intro,.nil⟩
 |p::kvs,_,r=>by
  rw[Kd]at r;cases r with
  |@cons a b as bs h t=>
   obtain⟨rs,c,q⟩:=lO (P:=P) (w:=w) t;obtain⟨b1,b2⟩:=b;exact⟨(p.1,b2)::rs,⟨nW h.1,rfl,c⟩,.cons ⟨rfl,h.2⟩ q⟩
def GK(Xh:List (TE×TE)):TE:=fun σ H Q=>∀p,H p=none->sP Xh σ (aI H p (.dK [])) fun ps H2=>H2 p=some (.dK [])/\∃kvs:List (dv×V),ps=kvs.map (fun kv=>(kV kv.1,kv.2))/\kvs.length<=15/\Q (.ref p) (aI H2 p (.dK (gh [] kvs)))
def vf(h:HX X pos Vc UJ Xh)(V_:Vc.all (·.isSome)=true)(hl:Vc.length=UJ.length)(h0:Vc≠[])
  (Yt:Vc.length<=15):PE X (.Dict Vc UJ pos) (GK Xh):=by
 refine⟨?_⟩;intro pins s σ H Q I q;have hn:=I.hok.fresh (J2 s.heap.objs.size);have I1:=I.laid (a:=s.heap.objs.size) (o:=.dK []) (h':=s.heap.push {cls:=.type "dict",data:=.dict #[]}) (t':=s.toks) (fun _ _ q=>JQ _ q) (J2 _) (rj s.heap I.big);refine wpAny_Dict_walk (knd:=cz X.prog X.w) V_ hl h0 Yt (bH (h pins _ σ _ _ I1 (q _ hn)) fun ws s2 hZZ=>?_);obtain⟨ps,H2,I2,Ue,e,kvs,ep,lk,q2⟩:=hZZ;subst ep;obtain⟨rs,c,rk⟩:=lO (P:=X.prog) (w:=X.w) Ue;obtain⟨z,hd,vs0,r0,dd⟩:=yr I2.hok e;cases r0;refine⟨rs,c,dd,fun h' V0 hs=>⟨.ref s.heap.objs.size,_,?_,rfl,q2⟩⟩;have hz:(gh [] kvs).length<=sizeLine:=by
  have h1:=fk kvs [];rw[Ke]at h1;rw[Rf];lia
 have he:∃q,h'.get? s.heap.objs.size=some q:=let⟨q,_,_,hq,_⟩:=V0;⟨q,hq⟩;exact oU I2 (by rw[e];exact True.intro) hs he (sO hz hd (rk.merge .nil) V0)
end
def IK(P:St->Hp->Prop)(t u:TS):TS:=fun D σ H=>(∀σ' H',P σ' H'->u D σ' H')/\t {D with nx:=P} σ H
def bf{X:Cx}{st:Stmt}{j':List Stmt}{t u:TS}(P:St->Hp->Prop)(h1:PS X st t)(h2:O9 X j' u):O9 X (st::j') (IK P t u):=by
 walk_at "u";refine wpAny_execs_cons (bH (h1 pins s σ H {D with nx:=P} I h.2) fun f s1 q=>?_);cases f with
 |next=>
  obtain⟨σ',H',I',q⟩:=q;exact h2 pins s1 σ' H' D I' (h.1 _ _ q)
 |ret v=>exact q
 |brk=>exact q
 |cont=>exact q
def GL(Pt Pf:St->Hp->Prop)(t:TT):TT:=fun σ H Q=>(∀H',Pt σ H'->Q true H')/\(∀H',Pf σ H'->Q false H')/\t σ H fun b H'=>if b=true then Pt σ H' else Pf σ H'
def c9(Pt Pf:St->Hp->Prop)(h:PT X e t):PT X e (GL Pt Pf t):=by
 refine⟨?_⟩;intro pins s σ H Q I hq;refine bH (h pins s σ H _ I hq.2.2) fun b s1⟨H1,I1,q⟩=>⟨H1,I1,?_⟩;cases b with
 |true=>exact hq.1 H1 (by simpa using q)
 |false=>exact hq.2.1 H1 (by simpa using q)
section
variable{H:Hp}
def sQ{K:ZF}{a:Ts}{xs:TQ}{g:TG}{tf:TT}{te:TE}{ix:List (Option Nat)}{σ:St}{Q:VK}(Pv:Nat->TQ->Hp->Prop)(h0:Pv 0 [] H)
  (hl:∀i ys H,i<=xs.length->Pv i ys H->NY K H a xs/\ys.length<=sizeLine)
  (hs:∀i x ys H,xs[i]?=some x->Pv i ys H->g x (qv ix σ) H fun σ2 H2=>O4 (qv ix σ) σ2/\tf σ2 H2 fun b H3=>if b=true then te σ2 H3 fun y H4=>Nx Pv xs.length i (ys++[y]) H4 else Nx Pv xs.length i ys H3)
  (hd:∀ys H,Pv xs.length ys H->∀D,H D=none->Q (.ref D) (aI H D (.lst ys))) :
  wE (F6 K a) g tf te ix σ H Q:=by
 refine⟨fun i m ys H=>m=xs.length-i/\i<=xs.length/\Pv i ys H,⟨xs.length,by simp,KO _,h0⟩,?_⟩;rintro i m ys H ⟨rfl,hi,p⟩;obtain⟨q,hz⟩:=hl i ys H hi p;by_cases Md:i<xs.length
 ·refine .inr ⟨⟨xs,xs[i],q,by simp[Md]⟩,hz,fun x H' y=>?_⟩;obtain⟨e,y⟩:=y;subst e;exact hs i x ys _ (y xs q) p
 ·have e:i=xs.length:=by lia
  subst e;exact .inl ⟨⟨xs,q,J2 _⟩,hz,hd ys H p⟩
def N9(H H':Hp):Prop:=∀a xs,H a=some (.tup xs)->H' a=some (.tup xs)
def N9.trans(a:N9 H H1)(b:N9 H1 H2):N9 H H2:=fun c x e=>b c x (a c x e)
def ao(s:NV H H'):N9 H H':=fun a xs e=>s _ _ e
def Ei(h:H p=some (.lst xs)):N9 H (aI H p (.lst ys)):=fun a zs e=>by
 have:a≠p:=by
  rintro rfl;rw[h]at e;cases e
 rw[am this];exact e
def kD(x:Str):Bool:=(PyData.str x).canLay0
mutual
inductive Td(H:Hp):V->PyData->Prop
 |int (i:Int):Td H (.int i) (.int i)
 |str (x:Str) (h:kD x=true):Td H (.str x) (.str x)
 |tup {a:Ts} {xs:TQ} {ds:List PyData}:H a=some (.tup xs)->Od H xs ds->Td H (.ref a) (.tuple ds)
inductive Od(H:Hp):TQ->List PyData->Prop
 |nil:Od H [] []
 |cons {v:V} {d:PyData} {vs:TQ} {ds:List PyData}:Td H v d->Od H vs ds->Od H (v::vs) (d::ds)
end
mutual
variable{K:ZF}
def Td.dt:∀{v:V}{d:PyData},Td H v d->Dt K H v d
 |_,_,.int i=>.int i
 |_,_,.str x _=>.str x
 |_,_,.tup e t=>.tup (NY.of e) (Od.dt t)
def Od.dt:∀{vs:TQ}{ds:List PyData},Od H vs ds->Oy K H vs ds
 |_,_,.nil=>.nil
 |_,_,.cons h t=>.cons (Td.dt h) (Od.dt t)
end
mutual
def Td.lay:∀{v:V}{d:PyData},Td H v d->d.canLay0=true
 |_,_,.int i=>rfl
 |_,_,.str x h=>h
 |_,_,.tup e t=>Od.lay t
def Od.lay:∀{vs:TQ}{ds:List PyData},Od H vs ds->PyData.canLayAll0 ds=true
 |_,_,.nil=>rfl
 |_,_,.cons h t=>by
  simp only[PyData.canLayAll0,Td.lay h,Od.lay t,RB]
end
mutual
def Td.eqv:∀{v:V}{d:PyData},Td H v d->PyData.eqv d d=true
 |_,_,.int i=>by simp[PyData.eqv]
 |_,_,.str x _=>by simp[PyData.eqv]
 |_,_,.tup e t=>by simp only[PyData.eqv];exact Od.eqv t
def Od.eqv:∀{vs:TQ}{ds:List PyData},Od H vs ds->PyData.eqvAll ds ds=true
 |_,_,.nil=>by simp[PyData.eqvAll]
 |_,_,.cons h t=>by
  simp only[PyData.eqvAll,Td.eqv h,Od.eqv t,RB]
end
end
section
inductive vh(X:Cx)(m:Str)(t:TA)(σ:St)(Q:VK)(x:V)(H1:Hp):Prop
 |mk(a dx C f:Ts)(fs:List (Str×V))(fd:TB)(k:Nat)(ps:TH)(sp:Sp):x=.ref a->H1 a=some (.ins C dx fs)->fs.lookup m=none->PP X.K C->qG X.K C m f->NZ X.prog X.w X.K X.mg X.base bZ k f fd ps sp->N1 k X.A->Oa X.K fd ps []->(t σ H1 fun vs H2=>sp (.ref a::vs) H2 Q E0)->vh X m t σ Q x H1
def Ej(X:Cx)(m:Str)(ta:TE)(t:TA):TE:=fun σ H Q=>ta σ H fun x H1=>vh X m t σ Q x H1
def bq(he:PE X o ta)(ha:PA X (e::es) t)
  (M':starEach (e::es) X.env=(false,eval e X.env)::starEach es X.env:=by rfl) (TY:(backTo pos (starEach es X.env)).any (·.1)=false:=by rfl)
  (ht:eval (.Call (.Attribute o m B') (e::es) [] pos) X.env=(do
   let ov <-eval o X.env
   standAt B'.atName
   let(f,first) <-holding [ov] (getMethod ov m pl)
   callWith pos f first (backTo pos (starEach (e::es) X.env)) (backToKw pos (keywordEach [] X.env))):=by rfl) :
  PE X (.Call (.Attribute o m B') (e::es) [] pos) (Ej X m ta t):=by
 walk_at "p";refine A_ (pl:=pl) (bH (he pins s σ H _ I h) fun u s1 hZZ=>?_) ht;obtain⟨x,H1,I1,rx,a,dx,C,f,fs,fd,k,ps,sp,ex,ea,l,c,hm,F,hr,hb,q⟩:=hZZ;subst ex;obtain rfl:u=Value.ref a:=rx;refine fZ I1 ea c hm l ?_;refine Lb (first:=[.ref a]) (h₀:=X.base) I.ok.mod.kin hm.kp (bH (ha pos pins s1 σ H1 _ I1 q) fun us s2⟨vs,H2,I2,r,q2⟩=>⟨I2.kIn,?_⟩) M' TY;exact jE (us:=.ref a::us) (vs:=.ref a::vs) (dvs:=[]) (ds:=[]) F hr hb .nil iq I2 (.cons rfl r) (by rw[KB];exact q2)
inductive rm(X:Cx)(m:Str)(Q:VK)(x:V)(H1:Hp):Prop
 |mk(a dx C f:Ts)(fs:List (Str×V))(fd:TB)(k:Nat)(ps:TH)(sp:Sp):x=.ref a->H1 a=some (.ins C dx fs)->fs.lookup m=none->PP X.K C->qG X.K C m f->NZ X.prog X.w X.K X.mg X.base bZ k f fd ps sp->N1 k X.A->Oa X.K fd ps []->sp [.ref a] H1 Q E0->rm X m Q x H1
def BG(X:Cx)(m:Str)(ta:TE):TE:=fun σ H Q=>ta σ H fun x H1=>rm X m Q x H1
def aN(he:PE X o ta)
  (ht:eval (.Call (.Attribute o m B') [] [] pos) X.env=(do
   let ov <-eval o X.env
   standAt B'.atName
   let(f,first) <-holding [ov] (getMethod ov m pl)
   callWith pos f first (backTo pos (starEach [] X.env)) (backToKw pos (keywordEach [] X.env))):=by rfl) :
  PE X (.Call (.Attribute o m B') [] [] pos) (BG X m ta):=by
 walk_at "p";refine A_ (pl:=pl) (bH (he pins s σ H _ I h) fun u s1 hZZ=>?_) ht;obtain⟨x,H1,I1,rx,a,dx,C,f,fs,fd,k,ps,sp,ex,ea,l,c,hm,F,hr,hb,q⟩:=hZZ;subst ex;obtain rfl:u=Value.ref a:=rx;refine fZ I1 ea c hm l ?_;exact PySem.W.callWith_K0 (first:=[.ref a]) I1.kIn hm.kp (jE (us:=[.ref a]) (vs:=[.ref a]) (dvs:=[]) (ds:=[]) F hr hb .nil iq I1 (.cons rfl .nil) q)
end
def IL(K:ZF)(l:Ts):It:=
 ⟨fun i H=>∃xs x,N0 K H l xs/\xs[i]?=some x,
  fun i H v H'=>∃T x,v=.ref T/\H T=none/\H'=aI H T (.tup [.int i,x])/\∀xs,N0 K H l xs->xs[i]?=some x,
  fun i H=>∃xs,N0 K H l xs/\xs.length<=i⟩
def wL{P:Tv}{w:Tw}{K:ZF}{Uo:List Expr}{kt:Nat}{tp:Pos}{e it l:Ts}(Ma:e≠it):
  oH P w K (.Tuple Uo kt tp) (IL K l) [e,it] e (fun i h=>(∃old,IsEnum h e it i old)/\h.IsListIter it l i) where
 mem:=by simp
 obj:=fun i h st b hb=>by
  obtain⟨⟨old,he⟩,⟨o1,h1,_,d1⟩⟩:=st;simp at hb;rcases hb with rfl|rfl
  ·exact⟨_,he,fun v q=>by cases q⟩
  ·exact⟨_,h1,fun v q=>by rw[d1]at q;cases q⟩
 keep:=fun i h h' st k=>by
  obtain⟨⟨old,he⟩,h1⟩:=st;exact⟨⟨old,k e (by simp) _ he⟩,h1.at fun o q=>k it (by simp) o q⟩
 item:=by
  walk_at "r";obtain⟨xs,x,hx,ex⟩:=hg;obtain⟨⟨old,he⟩,h1⟩:=st;obtain⟨T_,Vj,p1,z1⟩:=I.list hx;obtain⟨u1,VY,YJ⟩:=Vj.get ex;refine wpAny_pyNext_enum_item he h1 p1.isList (x:=u1) (by simpa using VY) Ma fun h' a1 a2 a3 a4 a5=>⟨_,rfl,?_⟩;refine wpAny_letOwnedTupleGo_enum a1 fun UT b1 b2=>?_;have hT:H s.heap.objs.size=none:=I.hok.fresh (J2 _);have Vk:∀b o,s.heap.get? b=some o->b≠s.heap.objs.size:=fun b o q=>Kq (Ka q);refine⟨.ref s.heap.objs.size,aI H s.heap.objs.size (.tup [.int i,x]),?_,rfl,⟨s.heap.objs.size,x,rfl,hT,rfl,fun xs' h=>by rw[I.list_inj h hx];exact ex⟩,?_,fun b hb=>?_⟩
  ·show NX X pins σ (aI H s.heap.objs.size (.tup [.int i,x])) {s with heap:=UT,toks:=s.toks+1};refine NX.turnedS (s:=s) (h':=UT) (t':=s.toks+1) (ch:=[e,it]) I (fun b hb=>hf b hb) (fun b o hc q=>?_) (fun b o q=>by rw[am (az q hT)];exact q) (fun b hb n=>by rw[am (Kq hb)];exact n) fun b o n q=>?_
   ·simp at hc;exact b2.extBut b o hc.1 (a5 b o hc.1 hc.2 q)
   ·by_cases eb:b=s.heap.objs.size
    ·subst eb;rw[ae]at q;cases q;refine⟨N5,[.int i s.toks,u1],.cons ⟨_,rfl⟩ (.cons YJ .nil),_,b2.extBut _ _ ?_ a3,rfl,_,rfl⟩;exact fun z=>Vk e _ he z.symm
    ·rw[am eb,n]at q;cases q
  ·refine⟨⟨_,b1⟩,a2.at fun o q=>b2.extBut _ o Ma.symm q⟩
  ·have n:=(hf b hb).1;have:b≠s.heap.objs.size:=by
    simp at hb;obtain⟨_,q1,_⟩:=id h1;rcases hb with rfl|rfl
    ·exact Vk _ _ he
    ·exact Vk _ _ q1
   rw[am this];exact n
 done:=by
  walk_at "r";obtain⟨xs,hx,hl⟩:=hg;obtain⟨⟨old,he⟩,h1⟩:=st;obtain⟨T_,Vj,p1,z1⟩:=I.list hx;have e1:=Vj.length;refine wpAny_pyNext_enum_end (I.ok.hd hc) he h1 p1.isList (by simp;lia) fun h' k=>⟨rfl,?_⟩;walk_at "x";exact I.turned (t':=s.toks) (fun b o hb q=>k b o hb q) f0 f1 f3 f4 f5
 self:=fun _ _ _ _ _ st h=>Rn st.1.choose_spec h
section
inductive yx(K:ZF)(R:It->Hp->Prop)(vs:TQ)(H1:Hp):Prop
 |mk(l:_):vs=[.ref l]->(∃xs,N0 K H1 l xs)->R (IL K l) H1->yx K R vs H1
def GM(K:ZF)(ta:TA):TI:=fun σ H R=>ta σ H fun vs H1=>yx K R vs H1
def nY:bootBuiltins "enumerate"=some (.type "enumerate"):=by decide +kernel
def kE{Uo:List Expr}{kt:Nat}{tp:Pos}{a:Expr}{ta:TA}{p pos:Pos}(hg:Gl X "enumerate")(hm:X.mg "enumerate"=none)(ha:PA X [a] ta)(hs:starEach [a] X.env=[(false,eval a X.env)]:=by rfl):
  PI X (.Tuple Uo kt tp) (.Call (.Name "enumerate" p) [a] [] pos) (GM X.K ta):=by
 refine⟨?_⟩;intro pins s σ H R I h;refine Call_ (iy I hg hm nY (Lc (bH (ha pos pins s σ H _ I h) fun us s1 hZZ=>?_) hs rfl));obtain⟨vs,H1,I1,r1,q1⟩:=hZZ;obtain⟨l,e,⟨xs,hx⟩,q⟩:=q1;subst e;cases r1 with
 |cons r rr=>
  cases rr;cases r;obtain⟨T_,Vj,p1,z1⟩:=I1.list hx;refine call_enumerate_list p1.isList fun h' a1 a2 a3 a4=>?_;refine Rn a1 ?_;refine⟨_,[s1.heap.objs.size+1,s1.heap.objs.size],_,_,H1,rfl,I1.kept (t':=s1.toks) a4,wL (LQ (Lv _)),⟨⟨_,a1⟩,a2⟩,fun b hb=>?_,q⟩;have Ub:s1.heap.objs.size<=b:=by
   simp only[J0,Kc,l_]at hb;rcases hb with e|e<;>rw[e]
   ·exact E_ _ _
   ·exact J2 _
  exact I1.fpOk Ub (I1.hok.fresh Ub)
end
section
def sR:dJ X (.type "dict") (fun xs H Q=>∃(d:Ts)(kvs:List (dv×V)),xs=[.ref d]/\H d=some (.dK kvs)/\∀a,H a=none->Q (.ref a) (aI H a (.dK kvs))):=by
 walk_at "J";obtain⟨d,kvs,rfl,hd,q⟩:=h;obtain⟨u,rfl,rx⟩:=i5 r;cases rx;obtain⟨hz,hs,vs,Ue,dd⟩:=yr I.hok hd;refine PySem.kt_call_dict hs dd (by rw[<-Ue.length];exact hz) fun h' Us Yh=>?_;have hk:∀b o,s.heap.get? b=some o->h'.get? b=some o:=fun b o e=>Yh.extBut b o (Kq (Ka e)) (JQ _ e);have hbig:=I.big;have e:s={s with toks:=s.toks}:=by cases s;rfl
 refine⟨.ref s.heap.objs.size,_,I.laid (t':=s.toks) (a:=s.heap.objs.size) (o:=.dK kvs) hk (J2 _) ?_,rfl,q _ (I.hok.fresh (J2 _))⟩;exact sO hz (by
  have:¬s.heap.objs.size=sysModules:=LQ hbig;simpa using this) Ue Us
end
end L2
namespace PySem
open Sem (wp)
def tupIt(l:Ts):Obj:={cls:=.type "tuple_iterator",data:=.fields #[.ref l,.int 0 0]}
def enumOver(it:Ts):Obj:={cls:=.type "enumerate",data:=.fields #[.none,.bool false,.ref it,rawInt 0,.none,.none]}
def Ql(l:Ts)(Me:Array Tr)(n:Nat)(od:Option Ts)(os:Array (Option Tr)):Meets (Builtin.«enumerate.__new__» ⟨[.type "enumerate",.ref l],[]⟩) (fun _ R s=>
  s.heap.get? l=some {cls:=.type "tuple",dict:=od,data:=.seq Me n,slots:=os}/\R (.ok (.ret (.ref (s.heap.push (tupIt l)).objs.size))) {s with heap:=(s.heap.push (tupIt l)).push (enumOver s.heap.objs.size)}):=
 .of_wp fun prog w A R s WP=>by
  rcases s with⟨hp,gs,dr,tk,sys⟩;have there:=WP.1;have V':=WP.2;have under:=sub_enumerate;have U6:hp.IsTuple l Me:=⟨_,there,rfl,n,rfl⟩
  wp_walk using M_ there
  refine wpAny_stack_any fun _=>c_ ?_;split
  ·rename_i c _ _ _ _ _;rcases hb:(c==Value.type "enumerate")with _|_<;>(wp_walk using M_ there,Rh U6;exact⟨_,rfl,V'⟩)
  ·(wp_walk using M_ there,Rh U6;exact⟨_,rfl,V'⟩)
section
def enum_of_tuple(U6:s.heap.IsTuple l Me)
  (h:Q (.ref (s.heap.objs.size+1)) {s with heap:=(s.heap.push (tupIt l)).push (enumOver s.heap.objs.size)}):wpAny (model prog w) A (call (.type "enumerate") [.ref l]) Q E s:=by
 obtain⟨o,there,Fe,n,YR⟩:=U6;cases o with
 |mk oc od YK Uj=>
  dsimp only at Fe YR;subst Fe YR;have sz:(s.heap.push (tupIt l)).objs.size=s.heap.objs.size+1:=Lg ..;have lies:((s.heap.push (tupIt l)).push (enumOver s.heap.objs.size)).get? (s.heap.objs.size+1)=some (enumOver s.heap.objs.size):=sz▸Ki (s.heap.push (tupIt l)) rfl;refine callType_new F.called_enumerate zd (F.typeCall_enumerate_1 _) (F.newCall_enumerate_1 _) (fun x=>F.args_object_init_2 x _) F.entry_enumerate_new (Ql l Me n od Uj) ⟨there,?_⟩;show _/\_;rw[sz];exact⟨⟨_,lies,rfl⟩,h⟩
end
section
def Ov(hit:s.heap.IsTupleIter it t i)(ht:s.heap.IsTuple t Me)(hx:Me[i]?=some x)
  (hQ:∀h',h'.IsTupleIter it t (i+1)->Heap.SameBut it s.heap h'->Q x {s with heap:=h'}):wpAny (model prog w) A (Builtin.SmallTypes.nextOf (.ref it)) Q E s:=by
 obtain⟨o,ho,hc,hd⟩:=id hit;obtain⟨ol,hol,_,nl,Yn⟩:=ht;unfold Builtin.SmallTypes.nextOf;refine a_ (u_ (name:=Str.ofString "__next__") hit.typeIs F_
  (I_ F_ hit.typeIs F.entry_tuple_iterator_next ?_ (F.args_tuple_iterator_next_1 _)))
 show wpAny _ _ (field (.ref it) 0>>=_) _ _ s;refine a_ (j_ ho hd (x:=.ref t) rfl ?_);show wpAny _ _ (if(Value.ref t==Value.none)=true then _ else _) _ _ s;rw[f_ (show¬((Value.ref t==Value.none)=true)from Kh)];show wpAny _ _ (field (.ref it) 1>>=_) _ _ s;refine a_ (j_ ho hd (x:=.int i 0) rfl ?_);show wpAny _ _ (seqItems? (.ref t)>>=_) _ _ s;refine a_ (G_ hol Yn ?_);simp only[Lf,hx];refine a_ (v_ ho hd (by simp) (c_ ⟨x,rfl,c_ (hQ _ ?_ (n_ ..))⟩));exact⟨_,i_ _ ho (RD (RU hd _)),(Obj.cls_mapFields ..).trans hc,by
  rw[RU hd];simp[rawInt]⟩
def nextOf_tuple_end(hh:A.handled=none)(hit:s.heap.IsTupleIter it t i)(ht:s.heap.IsTuple t Me)(hx:Me[i]?=none)
  (hE:∀h' e,Heap.ExtBut it s.heap h'->(∃o,h'.get? e=some o/\o.cls=.type "StopIteration")->E (.ref e) {s with heap:=h'}):wpAny (model prog w) A (Builtin.SmallTypes.nextOf (.ref it)) Q E s:=by
 obtain⟨o,ho,hc,hd⟩:=id hit;obtain⟨ol,hol,_,nl,Yn⟩:=ht;unfold Builtin.SmallTypes.nextOf;refine a_ (u_ (name:=Str.ofString "__next__") hit.typeIs F_
  (I_ F_ hit.typeIs F.entry_tuple_iterator_next ?_ (F.args_tuple_iterator_next_1 _)))
 show wpAny _ _ (field (.ref it) 0>>=_) _ _ s;refine a_ (j_ ho hd (x:=.ref t) rfl ?_);show wpAny _ _ (if(Value.ref t==Value.none)=true then _ else _) _ _ s;rw[f_ (show¬((Value.ref t==Value.none)=true)from Kh)];show wpAny _ _ (field (.ref it) 1>>=_) _ _ s;refine a_ (j_ ho hd (x:=.int i 0) rfl ?_);show wpAny _ _ (seqItems? (.ref t)>>=_) _ _ s;refine a_ (G_ hol Yn ?_);simp only[Lf,hx];refine a_ (wpAny_rule (a_ (v_ ho hd (by simp) ?_)));show wpAny _ _ (newExc (.type "StopIteration") []>>=_) _ _ _;refine a_ ?_;simp only[newExc,newTuple];refine a_ (w_ ?_ (by size_fits));refine a_ (m:=firstArgMember _ _) (wpAny_of_eq (a:=Value.none) (by first|rfl|(simp only[firstArgMember];rfl)) ?_);refine w_ ?_ (by size_fits);simp only[raiseNew];refine a_ (wpAny_handled ?_);first|rw[show A.in1.handled=none from hh]|rw[hh]
 refine a_ (c_ (wpAny_throw ?_));exact hE _ _ (((n_ ..).extBut.push _).push _) ⟨_,Ki _ rfl,rfl⟩
end
def drawsTuple(hh:A.handled=none)(it l:Ts)(Ma:l≠it)(Me:Array Tr):
  Draws prog w A it [it,l] Me.size (fun i v=>Me[i]?=some v) (fun i h=>h.IsTupleIter it l i/\h.IsTuple l Me) where
 live:=fun _ _ st=>let⟨o,ho,_⟩:=st.1;⟨o,ho⟩
 frame:=fun _ _ _ st hk=>⟨let⟨o,ho,r⟩:=st.1;⟨o,hk it (by simp) o ho,r⟩,let⟨o,ho,r⟩:=st.2;⟨o,hk l (by simp) o ho,r⟩⟩
 item:=fun i s Q E hi st hQ=>by
  refine Ov st.1 st.2 (x:=Me[i]) (by simp[hi]) fun h' hit' hs'=>?_;exact hQ _ h' s.toks (by simp[hi]) ⟨hit',st.2.extBut hs'.extBut Ma⟩ hs'
 done:=fun s Q E st hE=>nextOf_tuple_end hh st.1 st.2 (by simp) hE
end PySem
namespace L2
open PySem PySem.Spec PyProof.Rows
variable{i:Nat}{h h':Heap}
def GN{it l:Ts}(a:h.IsTupleIter it l i)(k:∀o,h.get? it=some o->h'.get? it=some o):h'.IsTupleIter it l i:=let⟨o,b,c⟩:=a;⟨o,k o b,c⟩
variable{Me:Array Tr}
def Dr{it l:Ts}(t:h.IsTuple l Me)(a:h.IsTupleIter it l i):l≠it:=by
 rintro rfl;obtain⟨o,x,c,_⟩:=t;obtain⟨o',x',c',_⟩:=a;rw[x]at x';cases x';rw[c]at c';injection c' with z;exact absurd z zd
def wM{prog:Tv}{w:Tw}{A:Tz}{E:Tr->Tu->Prop}{s:Tu}{e it l:Ts}{old:Tr}{Q:Option Tr->Tu->Prop}(hh:A.handled=none)(he:IsEnum s.heap e it i old)(h1:s.heap.IsTupleIter it l i)(U6:s.heap.IsTuple l Me)(hi:Me.size<=i)
  (hQ:∀h',Heap.ExtBut it s.heap h'->Q none {s with heap:=h'}):wpAny (model prog w) A (pyNext (.ref e)) Q E s:=by
 have hT:s.TypeIs (.ref e) "enumerate":=⟨_,he,rfl⟩;unfold pyNext;refine a_ (Re (u_ (name:=Str.ofString "__next__") hT RX (I_ RX hT PySem.F.entry_enumerate_next ?_ (PySem.F.args_enumerate_next_1 _))));show wpAny _ _ (field (.ref e) 2>>=_) _ _ _;refine a_ (j_ he rfl (x:=.ref it) rfl ?_);refine a_ (PySem.nextOf_tuple_end hh h1 U6 (Array.getElem?_eq_none hi) fun h' x VM Uk=>?_);obtain⟨o,ho,hc⟩:=Uk;refine a_ (wpAny_isInstance (T:="StopIteration") (b:=true) ⟨o,ho,hc⟩ isSubtype_stop ?_);exact c_ (hQ _ VM)
def yy(K:ZF)(l:Ts):It:=
 ⟨fun i H=>∃xs x,NY K H l xs/\xs[i]?=some x,
  fun i H v H'=>∃T x,v=.ref T/\H T=none/\H'=aI H T (.tup [.int i,x])/\∀xs,NY K H l xs->xs[i]?=some x,
  fun i H=>∃xs,NY K H l xs/\xs.length<=i⟩
def sS{P:Tv}{w:Tw}{K:ZF}{Uo:List Expr}{kt:Nat}{tp:Pos}{e it l:Ts}(Ma:e≠it):
  oH P w K (.Tuple Uo kt tp) (yy K l) [e,it] e (fun i h=>(∃old,IsEnum h e it i old)/\h.IsTupleIter it l i) where
 mem:=by simp
 obj:=fun i h st b hb=>by
  obtain⟨⟨old,he⟩,⟨o1,h1,_,d1⟩⟩:=st;simp at hb;rcases hb with rfl|rfl
  ·exact⟨_,he,fun v q=>by cases q⟩
  ·exact⟨_,h1,fun v q=>by rw[d1]at q;cases q⟩
 keep:=fun i h h' st k=>by
  obtain⟨⟨old,he⟩,h1⟩:=st;exact⟨⟨old,k e (by simp) _ he⟩,GN h1 fun o q=>k it (by simp) o q⟩
 item:=by
  walk_at "r";obtain⟨xs,x,hx,ex⟩:=hg;obtain⟨⟨old,he⟩,h1⟩:=st;obtain⟨T_,Vj,p1,z1⟩:=I.tuple hx;obtain⟨u1,VY,YJ⟩:=Vj.get ex;have U6:s.heap.IsTuple l T_.toArray:=let⟨o,a,b,n,c⟩:=p1;⟨o,a,b,n,c⟩;have nl:l≠it:=Dr U6 h1;have ne2:e∉[it,l]:=by
   intro m;simp only[J0,Kc,l_]at m;rcases m with m|m
   ·exact Ma m
   ·subst m;obtain⟨o,a,b,_⟩:=U6;rw[show s.heap.get? e=_ from he]at a;cases a;injection b with z;exact absurd z zd
  have Md:i<T_.toArray.size:=by
   have:=(JV.mp VY).1;simpa using this
  refine wpAny_pyNext_enum_itemD (PySem.drawsTuple (A:=X.A.in1) (show X.A.in1.handled=none from I.ok.hd hc) it l nl T_.toArray) he ⟨h1,U6⟩ Md Ma ne2 fun v h' tk px a1 a2' a3 a4 a5=>⟨_,rfl,?_⟩;have evu:v=u1:=by
   have e2:T_.toArray[i]?=some u1:=by simpa using VY
   rw[e2]at px;exact(Kw px).symm
  subst evu;have a2:=a2'.1;refine wpAny_letOwnedTupleGo_enum a1 fun UT b1 b2=>?_;have hT:H s.heap.objs.size=none:=I.hok.fresh (J2 _);have Vk:∀b o,s.heap.get? b=some o->b≠s.heap.objs.size:=fun b o q=>Kq (Ka q);refine⟨.ref s.heap.objs.size,aI H s.heap.objs.size (.tup [.int i,x]),?_,rfl,⟨s.heap.objs.size,x,rfl,hT,rfl,fun xs' h=>by rw[I.tuple_inj h hx];exact ex⟩,?_,fun b hb=>?_⟩
  ·show NX X pins σ (aI H s.heap.objs.size (.tup [.int i,x])) {s with heap:=UT,toks:=tk+1};refine NX.turnedS (s:=s) (h':=UT) (t':=tk+1) (ch:=[e,it]) I (fun b hb=>hf b hb) (fun b o hc q=>?_) (fun b o q=>by rw[am (az q hT)];exact q) (fun b hb n=>by rw[am (Kq hb)];exact n) fun b o n q=>?_
   ·simp at hc;exact b2.extBut b o hc.1 (a5 b o hc.1 hc.2 q)
   ·by_cases eb:b=s.heap.objs.size
    ·subst eb;rw[ae]at q;cases q;refine⟨N5,[.int i tk,v],.cons ⟨_,rfl⟩ (.cons YJ .nil),_,b2.extBut _ _ ?_ a3,rfl,_,rfl⟩;exact fun z=>Vk e _ he z.symm
    ·rw[am eb,n]at q;cases q
  ·refine⟨⟨_,b1⟩,GN a2 fun o q=>b2.extBut _ o Ma.symm q⟩
  ·have n:=(hf b hb).1;have:b≠s.heap.objs.size:=by
    simp at hb;obtain⟨_,q1,_⟩:=id h1;rcases hb with rfl|rfl
    ·exact Vk _ _ he
    ·exact Vk _ _ q1
   rw[am this];exact n
 done:=by
  walk_at "r";obtain⟨xs,hx,hl⟩:=hg;obtain⟨⟨old,he⟩,h1⟩:=st;obtain⟨T_,Vj,p1,z1⟩:=I.tuple hx;have e1:=Vj.length;have U6:s.heap.IsTuple l T_.toArray:=let⟨o,a,b,n,c⟩:=p1;⟨o,a,b,n,c⟩;have nl:l≠it:=Dr U6 h1;refine wM (I.ok.hd hc) he h1 U6 (by simp;lia) fun h' k=>⟨rfl,?_⟩;walk_at "x";exact I.turned (t':=s.toks) (fun b o hb q=>k b o hb q) f0 f1 f3 f4 f5
 self:=fun _ _ _ _ _ st h=>Rn st.1.choose_spec h
section
inductive vi(K:ZF)(R:It->Hp->Prop)(vs:TQ)(H1:Hp):Prop
 |mk(l:_):vs=[.ref l]->(∃xs,NY K H1 l xs)->R (yy K l) H1->vi K R vs H1
def Ek(K:ZF)(ta:TA):TI:=fun σ H R=>ta σ H fun vs H1=>vi K R vs H1
def lP{Uo:List Expr}{kt:Nat}{tp:Pos}{a:Expr}{ta:TA}{p pos:Pos}(hg:Gl X "enumerate")(hm:X.mg "enumerate"=none)(ha:PA X [a] ta)(hs:starEach [a] X.env=[(false,eval a X.env)]:=by rfl):
  PI X (.Tuple Uo kt tp) (.Call (.Name "enumerate" p) [a] [] pos) (Ek X.K ta):=by
 refine⟨?_⟩;intro pins s σ H R I h;refine Call_ (iy I hg hm nY (Lc (bH (ha pos pins s σ H _ I h) fun us s1 hZZ=>?_) hs rfl));obtain⟨vs,H1,I1,r1,q1⟩:=hZZ;obtain⟨l,e,⟨xs,hx⟩,q⟩:=q1;subst e;cases r1 with
 |cons r rr=>
  cases rr;cases r;obtain⟨T_,Vj,p1,z1⟩:=I1.tuple hx;have U6:s1.heap.IsTuple l T_.toArray:=let⟨o,a,b,n,c⟩:=p1;⟨o,a,b,n,c⟩;refine PySem.enum_of_tuple U6 ?_;have sz:(s1.heap.push (PySem.tupIt l)).objs.size=s1.heap.objs.size+1:=Lg ..;have a1:IsEnum ((s1.heap.push (PySem.tupIt l)).push (PySem.enumOver s1.heap.objs.size)) (s1.heap.objs.size+1) s1.heap.objs.size 0 .none:=sz▸Ki (s1.heap.push (PySem.tupIt l)) rfl;have a2:((s1.heap.push (PySem.tupIt l)).push (PySem.enumOver s1.heap.objs.size)).IsTupleIter s1.heap.objs.size l 0:=⟨_,JQ _ (Ki _ rfl),rfl,rfl⟩;have a4:∀b o,s1.heap.get? b=some o->((s1.heap.push (PySem.tupIt l)).push (PySem.enumOver s1.heap.objs.size)).get? b=some o:=fun b o x=>JQ _ (JQ _ x);refine Rn a1 ?_;refine⟨_,[s1.heap.objs.size+1,s1.heap.objs.size],_,_,H1,rfl,I1.kept (t':=s1.toks) a4,sS (LQ (Lv _)),⟨⟨_,a1⟩,a2⟩,fun b hb=>?_,q⟩;have Ub:s1.heap.objs.size<=b:=by
   simp only[J0,Kc,l_]at hb;rcases hb with e|e<;>rw[e]
   ·exact E_ _ _
   ·exact J2 _
  exact I1.fpOk Ub (I1.hok.fresh Ub)
end
def jH{K:ZF}{l:Ts}{xs:TQ}{g:TG}{tb:TS}{D:Ow}{σ:St}{H:Hp}(Pv:Nat->St->Hp->Prop)(h0:Pv 0 σ H)(hl:∀i σ H,i<=xs.length->Pv i σ H->NY K H l xs)
  (hs:∀i x σ H T,xs[i]?=some x->H T=none->Pv i σ H->g (.ref T) σ (aI H T (.tup [.int i,x])) fun σ2 H2=>tb {D with nx:=Pv (i+1),ct:=Pv (i+1),bk:=D.nx} σ2 H2) (hd:∀σ H,Pv xs.length σ H->D.nx σ H) :
  ∃W:Nat->Nat->St->Hp->Prop,(∃m,W 0 m σ H)/\∀i m σ H,W i m σ H->
   ((yy K l).stop i H/\D.nx σ H)\/((yy K l).go i H/\∃N:St->Hp->Prop,(∀σ' H',N σ' H'->∃m',m'<m/\W (i+1) m' σ' H')/\∀x H',(yy K l).yld i H x H'->g x σ H' fun σ2 H2=>tb {D with nx:=N,ct:=N,bk:=D.nx} σ2 H2):=by
 refine⟨fun i m σ H=>m=xs.length-i/\i<=xs.length/\Pv i σ H,⟨xs.length,by simp,KO _,h0⟩,?_⟩;rintro i m σ H ⟨rfl,hi,p⟩;have q:=hl i σ H hi p;by_cases Md:i<xs.length
 ·refine .inr ⟨⟨xs,xs[i],q,by simp[Md]⟩,Pv (i+1),fun σ' H' p'=>⟨xs.length-(i+1),zo,rfl,Md,p'⟩,fun v H' y=>?_⟩;obtain⟨T,x,e1,hT,e2,hy⟩:=y;subst e1 e2;exact hs i x σ H T (hy xs q) hT p
 ·have e:i=xs.length:=by lia
  subst e;exact .inl ⟨⟨xs,q,J2 _⟩,hd σ H p⟩
end L2
namespace L3
open PySem L2
def top(i:Nat):Stmt:=PySem.Challenge.pw_rowsbeneath_k06_read_as_told.main.body.getD i (.Pass ⟨0,0,0,0⟩)
abbrev gX:Stmt:=top 10
abbrev sT:Stmt:=top 15
abbrev oV:Stmt:=top 16
abbrev nZ:Stmt:=top 17
abbrev El:Stmt:=top 29
abbrev eM:Stmt:=top 40
abbrev jI:Stmt:=top 41
abbrev gj:Stmt:=top 42
abbrev iE:Stmt:=top 43
abbrev jJ:Stmt:=top 44
abbrev gI:Stmt:=top 45
abbrev iF:Stmt:=top 46
abbrev jK:Stmt:=top 47
abbrev gJ:Stmt:=top 48
abbrev jL:Stmt:=top 49
abbrev gY:Stmt:=top 50
abbrev lQ:Stmt:=top 51
abbrev lR:Stmt:=top 52
abbrev jM:Stmt:=top 53
abbrev jN:Stmt:=top 54
abbrev lS:Stmt:=top 55
abbrev jc:Stmt:=top 57
abbrev gk:Stmt:=top 59
abbrev lU:Stmt:=top 60
abbrev iG:Stmt:=top 61
abbrev gK:Stmt:=top 62
abbrev iH:Stmt:=top 63
abbrev kF:Stmt:=top 64
abbrev oW:Stmt:=top 65
abbrev sU:Stmt:=top 66
abbrev sV:Stmt:=top 67
abbrev oX:Stmt:=top 68
abbrev oY:Stmt:=top 74
abbrev yz:Stmt:=top 75
abbrev Em:Stmt:=top 76
abbrev iI:Stmt:=top 77
abbrev yA:Stmt:=top 79
abbrev oZ:Stmt:=top 80
abbrev yB:Stmt:=top 81
abbrev sW:Stmt:=top 82
abbrev vj:Stmt:=top 83
abbrev o0:Stmt:=top 84
abbrev sX:Stmt:=top 85
abbrev o6:Stmt:=top 86
abbrev vk:Stmt:=top 87
abbrev sY:Stmt:=top 88
abbrev o7:Stmt:=top 89
abbrev lV:Stmt:=top 90
abbrev jO:Stmt:=top 91
abbrev jP:Stmt:=top 92
abbrev iJ:Stmt:=top 93
abbrev lW:Stmt:=top 94
abbrev o8:Stmt:=top 95
abbrev lX:Stmt:=top 96
abbrev fG:Stmt:=top 97
abbrev cL:Stmt:=top 98
abbrev wN:Stmt:=top 99
def Fn(P:Tv)(w:Tw)(K:ZF)(mg:Str->Option Tr)(base:Heap)(x:Str)(k:Nat)(ps:TH)(sp:Sp):Prop:=
 ∃(f:Ts)(fd:TB),mg x=some (.ref f)/\PySem.W.keepIn K (.ref f)=true/\Oa K fd ps []/\NZ P w K mg base bZ k f fd ps sp
def JH(sp:Sp)(t:TA):TE:=fun σ H Q=>t σ H fun vs H1=>sp vs H1 Q E0
def ar(h:Fn X.prog X.w X.K X.mg X.base x k ps sp)(hr:N1 k X.A)(hg:Gl X x)(ha:PA X (e::es) t)(Ul:(x==("__debug__":Str))=false:=by decide)
  (he:starEach (e::es) X.env=(false,eval e X.env)::starEach es X.env:=by rfl) (TY:(backTo pos (starEach es X.env)).any (·.1)=false:=by rfl):PE X (.Call (.Name x p) (e::es) [] pos) (JH sp t):=by
 obtain⟨f,fd,hm,hk,hb,F⟩:=h;refine⟨?_⟩;intro pins s σ H Q I q;have ha':PA X (e::es) t:=ha;refine Bv (dvs:=[]) (E:=E0) F hr hg hm hk hb .nil iq ha' Ul he TY pins s σ H Q I ?_;show t σ H fun vs H1=>sp (vs++[]) H1 Q E0;have e2:(fun vs H1=>sp (vs++[]) H1 Q E0)=fun vs H1=>sp vs H1 Q E0:=by
  funext vs H1;rw[KB]
 rw[e2];exact q
def Eo(h:Fn X.prog X.w X.K X.mg X.base x k [] sp)(hr:N1 k X.A)(hg:Gl X x)(Ul:(x==("__debug__":Str))=false:=by decide):PE X (.Call (.Name x p) [] [] pos) (fun _ H Q=>sp [] H Q E0):=by
 obtain⟨f,fd,hm,hk,hb,F⟩:=h;refine⟨?_⟩;intro pins s σ H Q I q;exact ye (dvs:=[]) (E:=E0) F hr hg hm hk hb .nil iq Ul pins s σ H Q I q
def ag(h:H p=none):NV H (aI H p o):=fun b u e=>by rw[am (az e h)];exact e
def nw{H H':Hp}{a:Ts}{o:HO}(n:H a=none)(z:aI H a o=H'):NV H H'/\H' a=some o:=z▸⟨ag n,ae⟩
def ci(hp:H p=none)(s:NV H H2):NV H (aI H2 p o):=fun b u e=>by rw[am (az e hp)];exact s b u e
section
variable{b:Bool}{A B:Prop}
def be(e:b=false)(h:B):if b=true then A else B:=by rw[e];exact bK h
def bD(e:b=true)(h:A):if b=true then A else B:=by rw[e];exact im h
def jd{l:TJ}{i:Nat}(h:i<l.length):qJ (S l).cps.toList (i:Int)=some l[i]:=aU (by show l.toArray.toList[i]?=_;simp[h])
def GO:("":Str)=S []:=by decide +kernel
def yC(z:Str):z=S z.cps.toList:=by
 show z=⟨z.cps.toList.toArray⟩;simp
def bJ(a b:TJ):S a++S b=S (a++b):=by
 show(⟨(S a).cps++(S b).cps⟩:Str)=⟨(a++b).toArray⟩
 congr 1
 simp[S]
def bP:bootBuiltins "isinstance"=some (.builtin "isinstance"):=by decide +kernel
def sZ:bootBuiltins "list"=some (.type "list"):=by decide +kernel
def cH:bootBuiltins "str"=some (.type "str"):=by decide +kernel
def gm:bootBuiltins "bool"=some (.type "bool"):=by decide +kernel
def br:bootBuiltins "tuple"=some (.type "tuple"):=by decide +kernel
def fH:bootBuiltins "all"=some (.builtin "all"):=by decide +kernel
structure Bl(mg:Str->Option Tr):Prop where
 len:mg "len"=none
 int:mg "int"=none
 max:mg "max"=none
 min:mg "min"=none
 range:mg "range"=none
 isinstance:mg "isinstance"=none
 list:mg "list"=none
 str:mg "str"=none
 bool:mg "bool"=none
 tuple:mg "tuple"=none
 all:mg "all"=none
def o9(x y z:Int):HO:=.lst [.int x,.int y,.int z]
def N6(H:Hp)(p:Ts):Prop:=∃x y z:Int,H p=some (o9 x y z)
def Of(p:Ts)(H H':Hp):Prop:=∀b o,H b=some o->b≠p->H' b=some o
def Of.refl(p:Ts)(H:Hp):Of p H H:=fun _ _ e _=>e
def Of.trans(a:Of p H H1)(b:Of p H1 H2):Of p H H2:=fun c o e n=>b c o (a c o e n) n
def Of.same(a:Of p H H1)(b:NV H1 H2):Of p H H2:=fun c o e n=>b c o (a c o e n)
def dW(b:NV H H1):Of p H H1:=fun c o e _=>b c o e
def N6.same(a:N6 H p)(b:NV H H1):N6 H1 p:=by obtain⟨x,y,z,e⟩:=a;exact ⟨x,y,z,b _ _ e⟩
def N6.ne(a:N6 H p)(h:H q=none):p≠q:=by obtain⟨_,_,_,e⟩:=a;exact az e h
inductive tj(K:ZF)(vs:TQ)(H:Hp)(Q:VK)(Z3:XK):Prop
 |mk(a:Ts)(ns:List Int)(k:Int):vs=[.ref a,.int k]->N0 K H a (ns.map V.int)->0<=k->(∀c:Int,Q (.int c) H)->tj K vs H Q Z3
inductive lY(vs:TQ)(H:Hp)(Q:VK)(Z3:XK):Prop
 |mk(c:Int):vs=[.int c]->(∀(p:Ts)H',H p=none->NV H H'->N6 H' p->Q (.ref p) H')->lY vs H Q Z3
inductive eO(vs:TQ)(H:Hp)(Q:VK)(Z3:XK):Prop
 |mk(p:Ts)(m:Nat):vs=[.ref p,.int m]->N6 H p->0<m->m<18446744073709551616->(∀(r:Nat)H',r<m->N6 H' p->Of p H H'->Q (.int r) H')->eO vs H Q Z3
section
def Ep:av [SB,SZ] [SB,SZ] (ak yA):=cV zk
def BH(F:Ob K "_law_cell" "_law_cell" yA f fd)(T:Bl mg):NZ P w K mg base bZ 1 f fd [SB,SZ] (tj K):=by
 have ZZ:=Ep
 walk_at "o"
 ·obtain⟨a,ns,k,rfl,hS,h0,q⟩:=h;refine⟨_,af (aQ (ap dY (pv 1) (aC aY (by rfl) T.len Kt (aa (pv 0) ac))) (aj (aq (ax aP (pv 0) (pv 1)))) aB)
   (aj (aq (aA bV (aA gC ah (pv 1)) ah))),?_⟩
  refine⟨_,rfl,_,rfl,a,_,rfl,.inl hS,_,_,rfl,rfl,_,rfl,?_⟩;refine bW (fun h=>?_) (fun h=>?_)
  ·have hl:k<((ns.map V.int).length:Int):=k_ h;rw[JY]at hl;obtain⟨n,rfl⟩:∃n:Nat,k=n:=⟨k.toNat,zo⟩;have hn:n<ns.length:=by lia
   refine⟨_,rfl,_,rfl,a,_,_,_,rfl,rfl,hS,aU (v:=.int ns[n]) (by simp[hn]),q _⟩
  ·exact⟨_,rfl,_,_,rfl,rfl,.inl ⟨zd,zd⟩,_,_,rfl,rfl,q _⟩
def yD:av [S1] [S1] (ak oZ):=cV zk
def wO(F:Ob K "_law_stream" "_law_stream" oZ f fd)(T:Bl mg):NZ P w K mg base bZ 1 f fd [S1] lY:=by
 have ZZ:=yD
 walk_at "o"
 ·obtain⟨c,rfl,q⟩:=h;refine⟨_,aj (aq (aT (aa (aA gC (pv 0) (aV fB (by rfl) T.int K8 (aa (cq Gv (pv 0) (aA D4 ah ah)) ac)))
   (aa (aA fh (pv 0) ah) (aa ah ac))))),?_⟩
  refine⟨_,rfl,_,rfl,_,_,rfl,rfl,⟨zd,zd,zd⟩,_,_,rfl,rfl,.inr ⟨_,rfl,?_⟩⟩;refine⟨_,_,rfl,rfl,.inr (by split<;>decide),_,rfl,_,_,rfl,rfl,(by show(0:Int)<2147483629;decide),N5,fun l hl=>?_⟩;exact q l _ hl (ag hl) ⟨_,_,_,ae⟩
def Pu:av [R6,Sq,"_law_digit","_law_number"] [R6,Sq] (ak yB):=cV zk
def rn(hm:0<m)(h:m<2^64):-(2^64)<n%m/\n%m<2^64:=by
 have:=RW n (show m≠0 by lia);have:=RE n hm;lia
def BI(F:Ob K "_law_take" "_law_take" yB f fd):NZ P w K mg base bZ 1 f fd [R6,Sq] eO:=by
 have ZZ:=Pu
 walk_at "o"
 ·obtain⟨p,m,rfl,⟨x,y,z,hp⟩,m0,m1,q⟩:=h;have F':∀(e x' y' z':Int)H1,0<=e->e<m->Of p H H1->Q (.int e) (aI H1 p (o9 x' y' z')):=fun e x' y' z' H1 h0 h1 b=>by
   have:=q e.toNat (aI H1 p (o9 x' y' z')) zo ⟨_,_,_,ae⟩ (fun c o e n=>by rw[am n];exact b c o e n);rw[Int.toNat_of_nonneg h0]at this;exact this
  have b1:∀o,Of p H (aI H p o):=fun o c u e n=>by rw[am n];exact e
  refine⟨_,af (aQ (ap nC (ax aP (pv 0) ah) ah)
    (af (bL (i:=2) Pu.nd (aA fh (ax aP (pv 0) ah) (pv 1)))
    (af (gB (aA yq (ax aP (pv 0) ah) (pv 1)) (xO (pv 0) ah qK))
    (aj (aq (pv 2))))) aB)
   (af (gB (aA bV (ax aP (pv 0) ah) ah) (xO (pv 0) ah qK))
   (af (bL (i:=3) Pu.nd (aA fh (aA bV (aA gC (aA bV (ax aP (pv 0) ah) (aA gC ah (ax aP (pv 0) ah))) ah) ah) ah))
   (af (bL (i:=3) Pu.nd (aA fh (aA gC (pv 3) (pv 3)) ah))
   (aj (aq (aA fh (aA Bq (aA fh (aA bV (aA gC (pv 3) (pv 3)) (aA gC ah (ax aP (pv 0) ah))) ah) ah) (pv 1))))))),?_⟩
  refine⟨_,rfl,p,_,_,_,rfl,rfl,N0.of hp,rfl,_,_,rfl,rfl,_,rfl,?_⟩;refine bW (fun h=>?_) (fun h=>?_)
  ·refine⟨_,rfl,p,_,_,_,rfl,rfl,N0.of hp,rfl,_,rfl,_,_,rfl,rfl,(by show(0:Int)<(m:Int);lia),?_⟩;refine⟨_,rfl,p,_,_,_,rfl,rfl,N0.of hp,rfl,_,rfl,_,_,rfl,rfl,⟨by show(0:Int)<(m:Int);lia,by show(m:Int)<18446744073709551616;lia⟩,?_⟩;refine⟨_,rfl,p,_,_,_,rfl,rfl,hp,rfl,?_⟩;refine⟨_,rfl,?_⟩;exact F' _ _ _ _ _ (RW _ zo) (RE _ zo) (Of.refl _ _)
  ·refine⟨_,rfl,p,_,_,_,rfl,rfl,N0.of hp,rfl,_,_,rfl,rfl,?_⟩;refine⟨_,rfl,p,_,_,_,rfl,rfl,hp,rfl,?_⟩;refine⟨_,rfl,p,_,_,_,rfl,rfl,N0.of ae,rfl,_,rfl,p,_,_,_,rfl,rfl,N0.of ae,rfl,_,_,rfl,rfl,.inl ⟨zd,zd⟩,_,_,rfl,rfl,_,_,rfl,rfl,.inr ⟨zd,zd⟩,_,_,rfl,rfl,_,_,rfl,rfl,(by show(0:Int)<2147483647;decide),?_⟩;refine⟨_,rfl,_,rfl,_,_,rfl,rfl,.inl (rn zd zd),_,_,rfl,rfl,(by show(0:Int)<2147483629;decide),?_⟩;refine⟨_,rfl,_,rfl,_,_,rfl,rfl,.inl (rn zd zd),_,rfl,p,_,_,_,rfl,rfl,N0.of ae,rfl,_,_,rfl,rfl,.inl ⟨zd,zd⟩,_,_,rfl,rfl,_,_,rfl,rfl,(by show(0:Int)<2147483587;decide),_,_,rfl,rfl,⟨zd,zd⟩,_,rfl,_,_,rfl,rfl,(by show(0:Int)<(m:Int);lia),?_⟩;exact F' _ _ _ _ _ (RW _ zo) (RE _ zo) (Of.refl _ _)
end
end
def al(l:TH):TQ:=l.map V.str
def ir(P:Tv)(w:Tw)(K:ZF)(mg:Str->Option Tr)(base:Heap)(C:Ts)(nm:Str)(n:Nat)(ps:TH)(sp:Sp):Prop:=∃f fd,qG K C nm f/\NZ P w K mg base bZ n f fd ps sp/\Oa K fd ps []
def Be(l:Ts)(k:Nat)(me:Bool):List (Str×V):=[(SE,.ref l),(Tj,.int k),("may_end",.bl me)]
structure Om(C:Ts)(H:Hp)(a l:Ts)(ts:TH)(k:Nat)(me:Bool):Prop where
 ob:∃dx,H a=some (.ins C dx (Be l k me))
 tk:H l=some (.lst (al (ts++[("":Str)])))
 le:ts.length<=1500
def N4(a:Ts)(H H':Hp):Prop:=∀b o,H b=some o->b≠a->H' b=some o
def N4.refl(p:Ts)(H:Hp):N4 p H H:=fun _ _ e _=>e
def N4.trans(a:N4 p H H1)(b:N4 p H1 H2):N4 p H H2:=fun c o e n=>b c o (a c o e n) n
def N4.same(a:N4 p H H1)(b:NV H1 H2):N4 p H H2:=fun c o e n=>b c o (a c o e n)
def bO(b:NV H H1):N4 p H H1:=fun c o e _=>b c o e
def Om.same(h:Om C H a l ts k me)(s:NV H H'):Om C H' a l ts k me:=⟨let⟨dx,e⟩:=h.ob;⟨dx,s _ _ e⟩,s _ _ h.tk,h.le⟩
def Om.ne(h:Om C H a l ts k me):l≠a:=by
 rintro rfl;obtain⟨dx,e⟩:=h.ob;rw[h.tk]at e;cases e
structure Rc(K:ZF)(C:Ts):Prop where
 cl:PP K C
 n1:Oe K C SE
 n2:Oe K C Tj
 n3:Oe K C "may_end"
inductive tm(C:Ts)(vs:TQ)(H:Hp)(Q:VK)(Z3:XK):Prop
 |mk(a l ts k me z:_):vs=[.ref a]->Om C H a l ts k me->(ts++[("":Str)])[k]?=some z->Q (.str z) H->tm C vs H Q Z3
inductive Er(C:Ts)(vs:TQ)(H:Hp)(Q:VK)(Z3:XK):Prop
 |mk(a l ts k me z:_):vs=[.ref a]->Om C H a l ts k me->(ts++[("":Str)])[k]?=some z->(∀H',Om C H' a l ts (k+1) me->N4 a H H'->Q (.str z) H')->Er C vs H Q Z3
inductive tq(K:ZF)(C:Ts)(vs:TQ)(H:Hp)(Q:VK)(Z3:XK):Prop
 |mk(a l ts k me z p xs:_):vs=[.ref a,.ref p]->Om C H a l ts k me->(ts++[("":Str)])[k]?=some z->(N0 K H p (al xs)\/NY K H p (al xs))->z∈xs->(∀H',Om C H' a l ts (k+1) me->N4 a H H'->Q (.str z) H')->tq K C vs H Q Z3
abbrev yE:Stmt:=cJ eM 1
abbrev IM:Stmt:=cJ eM 2
abbrev yF:Stmt:=cJ eM 3
def yG{ts:TH}{k:Nat}{z:Str}(h:(ts++[("":Str)])[k]?=some z):(al (ts++[("":Str)]))[k]?=some (.str z):=by unfold al;rw[Kl,h];rfl
def dR(x:Str)(l:TH):ky (.str x) (al l)=l.contains x:=by
 unfold ky al;rw[List.any_map,La,List.any_eq_true,KM];constructor
 ·rintro⟨y,hy,e⟩;have:y=x:=by simpa[wC]using e
  rw[<-this];exact hy
 ·intro hx;exact⟨x,hx,by simp[wC]⟩
def dm(l:TH):(al l).all dZ=true:=by
 unfold al;rw[RK,KC];intro x _;rfl
section
def Es:av [R8] [R8] (ak yE):=cV zk
variable{fd:TB}{f:Ts}
def BJ(F:Ob K "look" "Reader.look" yE f fd)(T:Rc K C):NZ P w K mg base bZ 1 f fd [R8] (tm C):=by
 have ZZ:=Es
 walk_at "o"
 ·obtain⟨a,l,ts,k,me,z,rfl,hR,hz,q⟩:=h;refine⟨_,aj (aq (ax aP (bS (pv 0) rfl) (bS (pv 0) rfl))),?_⟩;obtain⟨dx,ho⟩:=hR.ob;exact⟨_,rfl,a,C,dx,_,_,rfl,ho,T.cl,T.n1,rfl,_,rfl,a,C,dx,_,_,rfl,ho,T.cl,T.n2,rfl,l,_,_,_,rfl,rfl,N0.of hR.tk,aU (yG hz),q⟩
def IP:av [R8] [R8] (ak IM):=cV zk
def GP(F:Ob K "take" "Reader.take" IM f fd)(T:Rc K C):NZ P w K mg base bZ 1 f fd [R8] (Er C):=by
 have ZZ:=IP
 walk_at "o"
 ·obtain⟨a,l,ts,k,me,z,rfl,hR,hz,q⟩:=h;refine⟨_,af (nI (pv 0) ah yb) (aj (aq (ax aP (bS (pv 0) rfl) (aA fY (bS (pv 0) rfl) ah)))),?_⟩;obtain⟨dx,ho⟩:=hR.ob;refine⟨_,rfl,a,C,dx,_,_,rfl,ho,T.cl,T.n2,rfl,_,_,rfl,rfl,dx,_,ho,(by show 3<1000;decide),?_⟩;have e1:(aI H a (.ins C dx (aL Tj (.int ((k:Int)+1)) (Be l k me)))) a=some (.ins C dx (Be l (k+1) me)):=by rw[ae];rfl
  have e2:(aI H a (.ins C dx (aL Tj (.int ((k:Int)+1)) (Be l k me)))) l=some (.lst (al (ts++[("":Str)]))):=by rw[am hR.ne];exact hR.tk
  have b2:N4 a H (aI H a (.ins C dx (aL Tj (.int ((k:Int)+1)) (Be l k me)))):=fun b o e n=>by rw[am n];exact e
  generalize aI H a (.ins C dx (aL Tj (.int ((k:Int)+1)) (Be l k me)))=H1 at*;refine⟨_,rfl,a,C,dx,_,_,rfl,e1,T.cl,T.n1,rfl,_,rfl,a,C,dx,_,_,rfl,e1,T.cl,T.n2,rfl,_,_,rfl,rfl,l,_,_,_,rfl,rfl,N0.of e2,?_,q _ ⟨⟨dx,e1⟩,e2,hR.le⟩ b2⟩;have:(((k+1:Nat):Int)-1)=(k:Int):=by lia
  rw[this];exact aU (yG hz)
structure Rm(P:Tv)(w:Tw)(K:ZF)(mg:Str->Option Tr)(base:Heap)(C:Ts):Prop extends Rc K C where
 look:ir P w K mg base C "look" 1 [R8] (tm C)
 take:ir P w K mg base C "take" 1 [R8] (Er C)
def Et:av [R8,Sz] [R8,Sz] (ak yF):=cV zk
def BL(F:Ob K "need" "Reader.need" yF f fd)(T:Rm P w K mg base C):NZ P w K mg base bZ 2 f fd [R8,Sz] (tq K C):=by
 have ZZ:=Et
 walk_at "o"
 ·obtain⟨a,l,ts,k,me,z,p,xs,rfl,hR,hz,hp,hm,q⟩:=h;have LU:N1 1 _:=hr;refine⟨_,af (aQ (ap eo (aN (pv 0)) (pv 1) rfl) (aj da) aB) (aj (aq (aN (pv 0)))),?_⟩;obtain⟨dx,ho⟩:=hR.ob;obtain⟨f1,LW,M1,F1,B1⟩:=T.look;obtain⟨f2,Um,M2,F2,B2⟩:=T.take;refine⟨_,rfl,a,dx,C,f1,_,LW,1,[R8],_,rfl,ho,rfl,T.cl,M1,F1,LU,B1,a,l,ts,k,me,z,rfl,hR,hz,_,rfl,p,al xs,rfl,?_,rfl,dm _,_,rfl,be ?_ ?_⟩
  ·exact hp
  ·show(!ky (.str z) (al xs))=false;rw[dR,KM.mpr hm];rfl
  ·exact⟨_,rfl,a,dx,C,f2,_,Um,1,[R8],_,rfl,ho,rfl,T.cl,M2,F2,LU,B2,a,l,ts,k,me,z,rfl,hR,hz,q⟩
end
abbrev tz(ts:TH):TH:=ts++[("":Str)]
def OS:TH:=[SA,Se,Sh,Sa,Sg,Sx,So,R9,Sc,"number",S2,"set",Tn,S9,S3,SJ,S5,Su,SK,SN,Sk,"bell"]
def N8(z:Str):Prop:=z∉OS/\1<=z.length/\z.length<=8/\∀c∈z.cps.toList,97<=c/\c<=122
inductive Eu(vs:TQ)(H:Hp)(Q:VK)(Z3:XK):Prop
 |mk(z:_):vs=[.str z]->N8 z->(∀H',NV H H'->Q (.bl true) H')->Eu vs H Q Z3
inductive pb(vs:TQ)(H:Hp)(Q:VK)(Z3:XK):Prop
 |mk(n:Nat):vs=[.str (toString (n:Int):Str)]->n<1000000000->(∀H',NV H H'->Q (.int n) H')->pb vs H Q Z3
inductive pc(vs:TQ)(H:Hp)(Q:VK)(Z3:XK):Prop
 |mk(i:Int):vs=[.int i]->Q (.bl true) H->pc vs H Q Z3
inductive lZ(vs:TQ)(H:Hp)(Q:VK)(Z3:XK):Prop
 |mk(i lo hi:Int):vs=[.int i,.int lo,.int hi]->lo<=i->i<=hi->Q (.bl true) H->lZ vs H Q Z3
inductive iL(C:Ts)(vs:TQ)(H:Hp)(Q:VK)(Z3:XK):Prop
 |mk(a l ts k me z:_):vs=[.ref a]->Om C H a l ts k me->(tz ts)[k]?=some z->N8 z->(∀H',Om C H' a l ts (k+1) me->N4 a H H'->Q (.str z) H')->iL C vs H Q Z3
inductive gp(C:Ts)(vs:TQ)(H:Hp)(Q:VK)(Z3:XK):Prop
 |mk(a l ts k me:_)(n lo hi:Nat):vs=[.ref a,.int lo,.int hi]->Om C H a l ts k me->(tz ts)[k]?=some (toString (n:Int):Str)->n<1000000000->lo<=n->n<=hi->(∀H',Om C H' a l ts (k+1) me->N4 a H H'->Q (.int n) H')->gp C vs H Q Z3
inductive jQ(C:Ts)(vs:TQ)(H:Hp)(Q:VK)(Z3:XK):Prop
 |mk(a l ts k:_):vs=[.ref a]->Om C H a l ts k true->k=ts.length->Q .non H->jQ C vs H Q Z3
abbrev jR:Stmt:=cJ eM 4
abbrev gM:Stmt:=cJ eM 5
abbrev l0:Stmt:=cJ eM 6
section
def BN:av [SS] [SS] (ak sT):=cV zk
def yH(F:Ob K "is_whole" "is_whole" sT f fd)(T:Bl mg):NZ P w K mg base bZ 1 f fd [SS] pc:=by
 have ZZ:=BN
 walk_at "o"
 ·obtain⟨i,rfl,q⟩:=h;refine⟨_,aj (aq (fX (aC (dE (T:="int")) (by rfl) T.isinstance bP (aa (pv 0) (aa (ef (by rfl) T.int K8) ac))) (fW (xL (aC (dE (T:="bool")) (by rfl) T.isinstance bP (aa (pv 0) (aa (ef (by rfl) T.bool gm) ac))))))),?_⟩;exact⟨_,rfl,_,_,_,rfl,.int _,rfl,_,rfl,im ⟨_,rfl,_,_,_,rfl,.int _,rfl,_,rfl,q⟩⟩
def yI:av [SS,To,S_] [SS,To,S_] (ak oV):=cV zk
def wP(F:Ob K "is_within" "is_within" oV f fd)(WH:Fn P w K mg base "is_whole" 1 [SS] pc):NZ P w K mg base bZ 2 f fd [SS,To,S_] lZ:=by
 have ZZ:=yI
 walk_at "o"
 ·obtain⟨i,lo,hi,rfl,h1,h2,q⟩:=h;refine⟨_,aj (aq (fX (ar WH hr rfl (aa (pv 0) ac)) (fW (lD i4 i4 (pv 1) (pv 0) (pv 2))))),?_⟩;refine⟨_,rfl,i,rfl,_,rfl,im ⟨_,rfl,_,rfl,_,_,rfl,rfl,_,rfl,bD (b_ h1) ⟨_,rfl,_,_,rfl,rfl,?_⟩⟩⟩;show Q (V.bl (decide (i<=hi))) H;rw[b_ h2];exact q
def tw:av [R8] [R8] (ak jR):=cV zk
def rq(F:Ob K "need_name" "Reader.need_name" jR f fd)(T:Rm P w K mg base C)(NM:Fn P w K mg base "is_name" 1 [SS] Eu):NZ P w K mg base bZ 2 f fd [R8] (iL C):=by
 have ZZ:=tw
 walk_at "o"
 ·obtain⟨a,l,ts,k,me,z,rfl,hR,hz,hn,q⟩:=h;have LU:N1 1 _:=hr;refine⟨_,af (aQ (cr (bU (ar NM LU rfl (aa (aN (pv 0)) ac)))) (aj da) aB) (aj (aq (aN (pv 0)))),?_⟩;obtain⟨dx,ho⟩:=hR.ob;obtain⟨f1,LW,M1,F1,B1⟩:=T.look;obtain⟨f2,Um,M2,F2,B2⟩:=T.take;refine⟨_,rfl,a,dx,C,f1,_,LW,1,[R8],_,rfl,ho,rfl,T.cl,M1,F1,LU,B1,a,l,ts,k,me,z,rfl,hR,hz,z,rfl,hn,fun H1 s1=>⟨_,rfl,bK ?_⟩⟩;exact⟨_,rfl,a,dx,C,f2,_,Um,1,[R8],_,rfl,s1 _ _ ho,rfl,T.cl,M2,F2,LU,B2,a,l,ts,k,me,z,rfl,hR.same s1,hz,fun H2 r2 b2=>q H2 r2 ((bO s1).trans b2)⟩
def OT:av [R8,To,S_,"number"] [R8,To,S_] (ak gM):=cV zk
def ni(F:Ob K "need_number" "Reader.need_number" gM f fd)(T:Rm P w K mg base C)(NU:Fn P w K mg base "number_of" 1 [Tp] pb)(WI:Fn P w K mg base "is_within" 2 [SS,To,S_] lZ):NZ P w K mg base bZ 3 f fd [R8,To,S_] (gp C):=by
 have ZZ:=OT
 walk_at "o"
 ·obtain⟨a,l,ts,k,me,n,lo,hi,rfl,hR,hz,hn,h1,h2,q⟩:=h;refine⟨_,af (bL (i:=3) OT.nd (ar NU hr.m rfl (aa (aN (pv 0)) ac)))
   (af (aQ (cr (bU (ar WI hr rfl (aa (pv 3) (aa (pv 1) (aa (pv 2) ac)))))) (aj da) aB)
   (af (nI (pv 0) ah yb) (aj (aq (pv 3))))),?_⟩
  obtain⟨dx,ho⟩:=hR.ob;obtain⟨f1,LW,M1,F1,B1⟩:=T.look;refine⟨_,rfl,a,dx,C,f1,_,LW,1,[R8],_,rfl,ho,rfl,T.cl,M1,F1,hr.m,B1,a,l,ts,k,me,_,rfl,hR,hz,n,rfl,hn,fun H1 s1=>?_⟩;refine⟨_,rfl,_,rfl,_,rfl,(n:Int),(lo:Int),(hi:Int),rfl,zo,zo,_,rfl,bK ?_⟩;have hR1:=hR.same s1;have TR:=s1 _ _ ho;refine⟨_,rfl,a,C,dx,_,_,rfl,TR,T.cl,T.n2,rfl,_,_,rfl,rfl,dx,_,TR,(by show 3<1000;decide),?_⟩;have e1:(aI H1 a (.ins C dx (aL Tj (.int ((k:Int)+1)) (Be l k me)))) a=some (.ins C dx (Be l (k+1) me)):=by rw[ae];rfl
  have e2:(aI H1 a (.ins C dx (aL Tj (.int ((k:Int)+1)) (Be l k me)))) l=some (.lst (al (ts++[("":Str)]))):=by rw[am hR.ne];exact hR1.tk
  exact⟨_,rfl,q _ ⟨⟨dx,e1⟩,e2,hR.le⟩ (fun b o e n=>by rw[am n];exact s1 _ _ e)⟩
def wQ:av [R8] [R8] (ak l0):=cV zk
def tD(F:Ob K "need_end" "Reader.need_end" l0 f fd)(T:Rm P w K mg base C)(B:Bl mg):NZ P w K mg base bZ 1 f fd [R8] (jQ C):=by
 have ZZ:=wQ
 walk_at "o"
 ·obtain⟨a,l,ts,k,rfl,hR,hk,q⟩:=h;refine⟨_,aj (aQ (PW.pt (dP (cr (bU (bS (pv 0) rfl))) (c8 (ap dY (aA bV (bS (pv 0) rfl) ah) (aC aY (by rfl) B.len Kt (aa (bS (pv 0) rfl) ac)))))) (aj da) aB),?_⟩;obtain⟨dx,ho⟩:=hR.ob;refine⟨_,rfl,a,C,dx,_,_,rfl,ho,T.cl,T.n3,rfl,_,rfl,bK ?_⟩;refine⟨_,rfl,a,C,dx,_,_,rfl,ho,T.cl,T.n2,rfl,_,_,rfl,rfl,_,rfl,a,C,dx,_,_,rfl,ho,T.cl,T.n1,rfl,l,_,rfl,.inl (N0.of hR.tk),_,_,rfl,rfl,_,rfl,be (d_ ?_) q⟩;unfold al;rw[JY,JU];simp;lia
end
structure sy(P:Tv)(w:Tw)(K:ZF)(mg:Str->Option Tr)(base:Heap)(C:Ts):Prop extends Rm P w K mg base C where
 need:ir P w K mg base C "need" 2 [R8,Sz] (tq K C)
 nname:ir P w K mg base C "need_name" 2 [R8] (iL C)
 nnum:ir P w K mg base C "need_number" 3 [R8,To,S_] (gp C)
 nend:ir P w K mg base C "need_end" 1 [R8] (jQ C)
inductive jS(C:Ts)(vs:TQ)(H:Hp)(Q:VK)(Z3:XK):Prop
 |mk(a l ts k me wd:_)(n lo hi:Nat):vs=[.ref a,.str wd,.int lo,.int hi]->Om C H a l ts k me->(tz ts)[k]?=some wd->(tz ts)[k+1]?=some (toString (n:Int):Str)->(tz ts)[k+2]?=some ";"->n<1000000000->lo<=n->n<=hi->(∀H',Om C H' a l ts (k+3) me->N4 a H H'->Q (.int n) H')->jS C vs H Q Z3
def rB(ts:TH)(k:Nat)(zs:TH):Prop:=∀i(h:i<zs.length),(tz ts)[k+i]?=some zs[i]/\N8 zs[i]
inductive pi(C:Ts)(vs:TQ)(H:Hp)(Q:VK)(Z3:XK):Prop
 |mk(a l ts k me wd zs:_)(lo hi:Nat):vs=[.ref a,.str wd,.int lo,.int hi]->Om C H a l ts k me->(tz ts)[k]?=some wd->rB ts (k+1) zs->(tz ts)[k+1+zs.length]?=some ";"->lo<=zs.length->zs.length<=hi->hi<=10->(∀p H',Om C H' a l ts (k+2+zs.length) me->N4 a H H'->H p=none->H' p=some (.tup (al zs))->Q (.ref p) H')->pi C vs H Q Z3
section
def Pn:av [Sb,SA,To,S_,"number"] [Sb,SA,To,S_] (ak gj):=cV zk
def tE(F:Ob K "read_bounded" "read_bounded" gj f fd)(T:sy P w K mg base C):NZ P w K mg base bZ 4 f fd [Sb,SA,To,S_] (jS C):=by
 have ZZ:=Pn
 walk_at "o"
 ·obtain⟨a,l,ts,k,me,wd,n,lo,hi,rfl,hR,t0,t1,t2,hn,h1,h2,q⟩:=h;refine⟨_,af (aM (bq (pv 0) (aa (ay (aa (pv 1) ac)) ac)))
   (af (bL (i:=4) Pn.nd (bq (pv 0) (aa (pv 2) (aa (pv 3) ac))))
   (af (aM (bq (pv 0) (aa (ay (aa ai ac)) ac)))
   (aj (aq (pv 4))))),?_⟩
  obtain⟨f1,LW,M1,F1,B1⟩:=T.need;obtain⟨f2,Um,M2,F2,B2⟩:=T.nnum;obtain⟨dx,ho⟩:=hR.ob;refine⟨_,rfl,a,dx,C,f1,_,LW,2,[R8,Sz],_,rfl,ho,rfl,T.cl,M1,F1,hr.m,B1,_,rfl,N5,fun p1 n1=>?_⟩;have s1:=ag (o:=.tup [.str wd]) n1;refine⟨a,l,ts,k,me,wd,p1,[wd],rfl,hR.same s1,t0,(.inr (NY.of ae)),by simp,fun H1 r1 b1=>?_⟩;obtain⟨UD,TR⟩:=r1.ob;refine⟨_,rfl,a,UD,C,f2,_,Um,3,[R8,To,S_],_,rfl,TR,rfl,T.cl,M2,F2,hr,B2,_,rfl,_,rfl,a,l,ts,k+1,me,n,lo,hi,rfl,r1,t1,hn,h1,h2,fun H2 r2 b2=>?_⟩;obtain⟨UO,TV⟩:=r2.ob;refine⟨_,rfl,a,UO,C,f1,_,LW,2,[R8,Sz],_,rfl,TV,rfl,T.cl,M1,F1,hr.m,B1,N5,fun p2 n2=>?_⟩;have s2:=ag (o:=.tup [.str ";"]) n2;refine⟨a,l,ts,k+2,me,";",p2,[";"],rfl,r2.same s2,t2,(.inr (NY.of ae)),by simp,fun H3 r3 b3=>?_⟩;exact⟨_,rfl,q H3 r3 (((bO s1).trans (b1.trans b2)).trans ((bO s2).trans b3))⟩
def P7:av [Sb,SA,"least","most",Sj] [Sb,SA,"least","most"] (ak iE):=cV zk
def yJ(F:Ob K "read_names" "read_names" iE f fd)(T:sy P w K mg base C)(B:Bl mg):NZ P w K mg base bZ 3 f fd [Sb,SA,"least","most"] (pi C):=by
 have ZZ:=P7
 walk_at "o"
 ·obtain⟨a,l,ts,k,me,wd,zs,lo,hi,rfl,hR,t0,tn,te,h1,h2,h10,q⟩:=h;refine⟨_,af (aM (bq (pv 0) (aa (ay (aa (pv 1) ac)) ac)))
   (af (bL (i:=4) P7.nd (aT ac))
   (af (fz h_ (PW.pt (dP (ap dY (aC aY (by rfl) B.len Kt (aa (pv 4) ac)) (pv 2)) (c8 (PW.pt (bY (ap dY (aC aY (by rfl) B.len Kt (aa (pv 4) ac)) (pv 3)) (bM (ap qD (aN (pv 0)) ai)))))))
    (aj (aM (cu Kp Kk Kj bz (pv 4) (aa (aN (pv 0)) ac)))))
   (af (aM (bq (pv 0) (aa (ay (aa ai ac)) ac)))
   (aj (aq (aV bh (by rfl) B.tuple br (aa (pv 4) ac))))))),?_⟩
  obtain⟨f1,LW,M1,F1,B1⟩:=T.need;obtain⟨f2,Um,M2,F2,B2⟩:=T.nname;obtain⟨f3,Uf,M3,F3,B3⟩:=T.look;obtain⟨dx,ho⟩:=hR.ob;walk_at "w"
  refine⟨_,rfl,a,dx,C,f1,_,LW,2,[R8,Sz],_,rfl,ho,rfl,T.cl,M1,F1,hr,B1,_,rfl,N5,fun p1 n1=>?_⟩;have s1:=ag (o:=.tup [.str wd]) n1;refine⟨a,l,ts,k,me,wd,p1,[wd],rfl,hR.same s1,t0,(.inr (NY.of ae)),by simp,fun H1 r1 b1=>?_⟩;have c1:N4 a H H1:=(bO s1).trans b1;refine⟨N5,fun ln nn=>?_⟩;have s2:=ag (o:=.lst []) nn;have e2:(aI H1 ln (.lst [])) ln=some (.lst (al [])):=ae;have r2:=r1.same s2;have c2:=c1.same s2;have nH:H ln=none:=by
   by_cases hh:ln=a
   ·subst hh;obtain⟨UD,TR⟩:=r1.ob;rw[TR]at nn;cases nn
   ·cases hx:H ln with
    |none=>rfl
    |some o=>
     have:=c1 _ _ hx hh;rw[nn]at this;cases this
  have Wj:ln≠a:=by
   rintro rfl;rw[nH]at ho;cases ho
  have lnl:ln≠l:=fun z=>by
   have:=hR.tk;rw[<-z,nH]at this;cases this
  generalize aI H1 ln (.lst ([]:TQ))=H2 at*;refine⟨fun m σ H'=>∃i,i<=zs.length/\m=zs.length-i/\σ=[some (.ref a),some (.str wd),some (.int lo),some (.int hi),some (.ref ln)]/\Om C H' a l ts (k+1+i) me/\N4 a H H'/\H' ln=some (.lst (al (zs.take i))),⟨_,0,KO _,rfl,rfl,r2,c2,e2⟩,?_⟩;rintro m σ H3 ⟨i,hi3,rfl,rfl,r3,c3,e3⟩;have lt:(al (zs.take i)).length=i:=by
   unfold al;rw[JY,J9];lia
  obtain⟨Vr,Ux⟩:=r3.ob;by_cases Md:i<zs.length
  ·obtain⟨tz1,nm1⟩:=tn i Md;have tk1:zs.take (i+1)=zs.take i++[zs[i]]:=by rw[KE,J1 Md];rfl
   have nsc:zs[i]≠(";":Str):=by
    intro z;obtain⟨_,_,_,hc⟩:=nm1;rw[z]at hc;exact absurd (hc 59 zk) zo
   by_cases hlo:i<lo
   ·refine⟨_,rfl,ln,_,rfl,.inl (N0.of e3),_,rfl,_,_,rfl,rfl,_,rfl,bD (b_ (by rw[lt];lia)) ?_⟩;refine⟨fun σ' H'=>∃i',i'=i+1/\σ'=[some (.ref a),some (.str wd),some (.int lo),some (.int hi),some (.ref ln)]/\Om C H' a l ts (k+1+i') me/\N4 a H H'/\H' ln=some (.lst (al (zs.take i'))),fun σ' H'⟨i',e',a1,a2,a3,a4⟩=>⟨zs.length-i',zo,i',zo,rfl,a1,a2,a3,a4⟩,?_⟩;refine⟨_,rfl,.inl ⟨rfl,_,N0.of e3⟩,_,rfl,a,Vr,C,f2,_,Um,2,[R8],_,rfl,Ux,rfl,T.cl,M2,F2,hr,B2,a,l,ts,k+1+i,me,zs[i],rfl,r3,tz1,nm1,fun H4 r4 b4=>?_⟩;have e4:=b4 _ _ e3 Wj;refine⟨ln,_,_,rfl,rfl,e4,by rw[lt];lia,i+1,rfl,rfl,?_,?_,?_⟩
    ·refine⟨?_,?_,r4.le⟩
     ·obtain⟨Va,Uv⟩:=r4.ob;exact⟨Va,by rw[am Wj.symm];exact Uv⟩
     ·rw[am lnl.symm];exact r4.tk
    ·intro b o e nb;by_cases Xx:b=ln
     ·rw[Xx,nH]at e;cases e
     ·rw[am Xx];exact b4 _ _ (c3 _ _ e nb) nb
    ·rw[ae,tk1];unfold al;rw[Kb];rfl
   ·refine⟨_,rfl,ln,_,rfl,.inl (N0.of e3),_,rfl,_,_,rfl,rfl,_,rfl,be (d_ (by rw[lt];lia)) ?_⟩;refine⟨_,rfl,ln,_,rfl,.inl (N0.of e3),_,rfl,_,_,rfl,rfl,_,rfl,bD (b_ (by rw[lt];lia)) ?_⟩;refine⟨_,rfl,a,Vr,C,f3,_,Uf,1,[R8],_,rfl,Ux,rfl,T.cl,M3,F3,hr.m,B3,a,l,ts,k+1+i,me,zs[i],rfl,r3,tz1,rfl,_,rfl,bD (by simpa using nsc) ?_⟩;refine⟨fun σ' H'=>∃i',i'=i+1/\σ'=[some (.ref a),some (.str wd),some (.int lo),some (.int hi),some (.ref ln)]/\Om C H' a l ts (k+1+i') me/\N4 a H H'/\H' ln=some (.lst (al (zs.take i'))),fun σ' H'⟨i',e',a1,a2,a3,a4⟩=>⟨zs.length-i',zo,i',zo,rfl,a1,a2,a3,a4⟩,?_⟩;refine⟨_,rfl,.inl ⟨rfl,_,N0.of e3⟩,_,rfl,a,Vr,C,f2,_,Um,2,[R8],_,rfl,Ux,rfl,T.cl,M2,F2,hr,B2,a,l,ts,k+1+i,me,zs[i],rfl,r3,tz1,nm1,fun H4 r4 b4=>?_⟩;have e4:=b4 _ _ e3 Wj;refine⟨ln,_,_,rfl,rfl,e4,by rw[lt];lia,i+1,rfl,rfl,?_,?_,?_⟩
    ·refine⟨?_,?_,r4.le⟩
     ·obtain⟨Va,Uv⟩:=r4.ob;exact⟨Va,by rw[am Wj.symm];exact Uv⟩
     ·rw[am lnl.symm];exact r4.tk
    ·intro b o e nb;by_cases Xx:b=ln
     ·rw[Xx,nH]at e;cases e
     ·rw[am Xx];exact b4 _ _ (c3 _ _ e nb) nb
    ·rw[ae,tk1];unfold al;rw[Kb];rfl
  ·have hie:i=zs.length:=by lia
   have te':(tz ts)[k+1+i]?=some ";":=by rw[hie];exact te
   have ztk:al (zs.take i)=al zs:=by rw[hie,Ky]
   by_cases hhi:i<hi
   ·refine⟨_,rfl,ln,_,rfl,.inl (N0.of e3),_,rfl,_,_,rfl,rfl,_,rfl,be (d_ (by rw[lt];lia)) ?_⟩;refine⟨_,rfl,ln,_,rfl,.inl (N0.of e3),_,rfl,_,_,rfl,rfl,_,rfl,bD (b_ (by rw[lt];lia)) ?_⟩;refine⟨_,rfl,a,Vr,C,f3,_,Uf,1,[R8],_,rfl,Ux,rfl,T.cl,M3,F3,hr.m,B3,a,l,ts,k+1+i,me,";",rfl,r3,te',rfl,_,rfl,be (by simp) ?_⟩;refine⟨_,rfl,a,Vr,C,f1,_,LW,2,[R8,Sz],_,rfl,Ux,rfl,T.cl,M1,F1,hr,B1,N5,fun p2 n2=>?_⟩;have s4:=ag (o:=.tup [.str ";"]) n2;refine⟨a,l,ts,k+1+i,me,";",p2,[";"],rfl,r3.same s4,te',(.inr (NY.of ae)),by simp,fun H4 r4 b4=>?_⟩;have e4:=b4 _ _ (s4 _ _ e3) Wj;rw[ztk]at e4;refine⟨_,rfl,ln,al zs,rfl,.inl ⟨N0.of e4,fun p3 n3=>?_⟩⟩;have s5:=ag (o:=.tup (al zs)) n3;have c4:N4 a H H4:=(c3.same s4).trans b4;refine q p3 _ ?_ (c4.same s5) ?_ ae
    ·have:=r4.same s5;rw[hie]at this;have e9:k+1+zs.length+1=k+2+zs.length:=by lia
     rw[e9]at this;exact this
    ·by_cases h3a:p3=a
     ·subst h3a;obtain⟨Va,Uv⟩:=r4.ob;rw[Uv]at n3;cases n3
     ·cases hx:H p3 with
      |none=>rfl
      |some o=>
       have:=c4 _ _ hx h3a;rw[n3]at this;cases this
   ·refine⟨_,rfl,ln,_,rfl,.inl (N0.of e3),_,rfl,_,_,rfl,rfl,_,rfl,be (d_ (by rw[lt];lia)) ?_⟩;refine⟨_,rfl,ln,_,rfl,.inl (N0.of e3),_,rfl,_,_,rfl,rfl,_,rfl,be (d_ (by rw[lt];lia)) ?_⟩;refine⟨_,rfl,a,Vr,C,f1,_,LW,2,[R8,Sz],_,rfl,Ux,rfl,T.cl,M1,F1,hr,B1,N5,fun p2 n2=>?_⟩;have s4:=ag (o:=.tup [.str ";"]) n2;refine⟨a,l,ts,k+1+i,me,";",p2,[";"],rfl,r3.same s4,te',(.inr (NY.of ae)),by simp,fun H4 r4 b4=>?_⟩;have e4:=b4 _ _ (s4 _ _ e3) Wj;rw[ztk]at e4;refine⟨_,rfl,ln,al zs,rfl,.inl ⟨N0.of e4,fun p3 n3=>?_⟩⟩;have s5:=ag (o:=.tup (al zs)) n3;have c4:N4 a H H4:=(c3.same s4).trans b4;refine q p3 _ ?_ (c4.same s5) ?_ ae
    ·have:=r4.same s5;rw[hie]at this;have e9:k+1+zs.length+1=k+2+zs.length:=by lia
     rw[e9]at this;exact this
    ·by_cases h3a:p3=a
     ·subst h3a;obtain⟨Va,Uv⟩:=r4.ob;rw[Uv]at n3;cases n3
     ·cases hx:H p3 with
      |none=>rfl
      |some o=>
       have:=c4 _ _ hx h3a;rw[n3]at this;cases this
end
def je:TJ:=(List.range 26).map (97+·)
def BP:Str:="abcdefghijklmnopqrstuvwxyz"
def Ds:BP=S je:=by decide +kernel
def vo(c:Nat)(h:97<=c/\c<=122):c∈je:=by
 unfold je;refine Kr.mpr ⟨c-97,K1.mpr zo,zo⟩
structure Ev(K:ZF)(mg:Str->Option Tr)(aO:Ts)(tL tN:Tok):Prop where
 own:mg "OWN_WORDS"=some (.ref aO)
 sq:∀H,NY K H aO (al OS)
 lets:mg "LETTERS"=some (.str BP tL)
 lng:mg "LONGEST_NAME"=some (.int 8 tN)
section
def yK:av [SS] [SS] (ak nZ):=cV zk
def Ew:(["sign"]:TH).Nodup:=by decide +kernel
def BQ(F:Ob K "is_name" "is_name" nZ f fd)(T:Bl mg)(C:Ev K mg aO tL tN):NZ P w K mg base bZ 1 f fd [SS] Eu:=by
 have ZZ:=yK
 walk_at "o"
 ·obtain⟨z,rfl,⟨VJ,h1,h8,hc⟩,q⟩:=h;refine⟨_,af (aQ (PW.pt (dP (cr (bU (aC (dE (T:="str")) (by rfl) T.isinstance bP (aa (pv 0) (aa (ef (by rfl) T.str cH) ac)))))
    (c8 (ap eI (pv 0) (bi (v:=.ref aO) rfl C.own rfl) rfl)))) (aj (aq fw)) aB)
   (aj (aq (fX (lD i4 i4 ah (aC bN (by rfl) T.len Kt (aa (pv 0) ac)) (bi (v:=.int 8) rfl C.lng ⟨_,rfl⟩))
    (fW (aC (gF rfl) (by rfl) T.all fH (aa (dQ (N':=["sign"]) (ix:=[none]) (sc0:=ak nZ) (N:=[SS]) rfl zk (sM (pv 0))
     (fun C' cl s H fp=>cG (i:=0) Ew) (fun _ _ _ _ _=>dM) (fun C' cl s H fp=>cq fA (pv 0) (bi (v:=.str BP) rfl C.lets ⟨_,rfl⟩) rfl)) ac)))))),?_⟩
  have ez:z=S z.cps.toList:=yC z;have zl:z.length=z.cps.toList.length:=by show z.cps.size=_;simp
  generalize hl:z.cps.toList=l at*;subst ez;rw[aG]at h1 h8;walk_at "v"
  refine⟨_,rfl,_,_,_,rfl,.str _,rfl,_,rfl,bK ?_⟩;refine⟨_,rfl,aO,al OS,rfl,.inr (C.sq H),rfl,dm _,_,rfl,be ?_ ?_⟩
  ·show ky (.str (S l)) (al OS)=false;rw[dR];exact Lo.mpr fun e=>VJ (KM.mp e)
  ·refine⟨_,rfl,S l,rfl,(by rw[aG];lia),_,_,rfl,rfl,_,rfl,?_⟩;rw[aG];refine bD (b_ zo) ⟨_,_,rfl,rfl,_,rfl,bD (b_ zo) ⟨_,rfl,l,rfl,?_⟩⟩;refine sN (fun i ys H'=>ys=(List.replicate i true).map V.bl/\NV H H') ⟨rfl,NV.refl _⟩ (fun i ys H' hi⟨e,_⟩=>by rw[e,JY,Lm];lia) ?_ ?_
   ·rintro i ys H' hi ⟨rfl,s'⟩;refine⟨trivial,dN ?_⟩;refine⟨_,rfl,S [l[i]],_,rfl,rfl,?_⟩;rw[Ds,gU,b_ (vo _ (hc _ (KJ hi)))];refine Nx.mk hi ⟨?_,s'⟩;rw[Rr,Kb];rfl
   ·rintro ys H' ⟨rfl,s'⟩ D hD;refine⟨D,List.replicate l.length true,rfl,N0.of ae,?_⟩;have:=q _ (s'.trans (ag (o:=.lst ((List.replicate l.length true).map V.bl)) hD));have ea:(List.replicate l.length true).all id=true:=by simp
    rw[ea];exact this
end
def dg(n:Nat):TJ:=(Nat.toDigits 10 n).map Char.toNat
def rC(h:n<10):dg n=[48+n]:=by
 unfold dg;rw[Nat.toDigits_of_lt_base h];have:∀d:Nat,d<10->[Nat.digitChar d].map Char.toNat=[48+d]:=by decide
 exact this n h
def yL(h:10<=n):dg n=dg (n / 10)++[48+n%10]:=by
 have hm:n%10<10:=LK n zd;have t:Nat.toDigits 10 (n / 10)++Nat.toDigits 10 (n%10)=Nat.toDigits 10 (10*(n / 10)+n%10):=Nat.toDigits_append_toDigits zd zo hm;rw[Nat.div_add_mod]at t;rw[<-rC hm];unfold dg;rw[<-t,Kb]
def ma(n:Nat):∀c∈dg n,48<=c/\c<=57:=by
 induction n using Nat.strongRecOn with
 |_ n ih=>
  by_cases h:n<10
  ·rw[rC h];intro c hc;rw[Kz.mp hc];lia
  ·rw[yL zo];intro c hc;rcases Ko.mp hc with hc|hc
   ·exact ih (n / 10) zo c hc
   ·rw[Kz.mp hc];lia
def gN(n:Nat):1<=(dg n).length/\∀k,1<=k->n<10^k->(dg n).length<=k:=by
 induction n using Nat.strongRecOn with
 |_ n ih=>
  by_cases h:n<10
  ·rw[rC h];exact⟨by simp,fun k hk _=>by simpa using hk⟩
  ·rw[yL zo];obtain⟨a,b⟩:=ih (n / 10) zo;refine⟨by rw[JU];simp,fun k hk hn=>?_⟩;rw[JU];have Wn:2<=k:=by
    rcases(by lia:k=1\/2<=k)with rfl|z
    ·simp at hn;lia
    ·exact z
   have:=b (k-1) zo (by
    have e:10^k=10^(k-1)*10:=by rw[<-RJ];congr 1;lia
    rw[e]at hn;exact Nat.div_lt_of_lt_mul (by rw[Nat.mul_comm];exact hn))
   simp;lia
def BR(n:Nat)(h1:1<=n):(dg n)[0]?≠some 48:=by
 induction n using Nat.strongRecOn with
 |_ n ih=>
  by_cases h:n<10
  ·rw[rC h];simp;lia
  ·rw[yL zo];have hl:=(gN (n / 10)).1;rw[Lh zo];exact ih (n / 10) zo zo
def iM(n:Nat):(toString (n:Int):Str)=S (dg n):=by
 have:=PySem.W.KIN.signs_num n;have e:=yC (toString (n:Int):Str);rw[e]
 congr 1
def GQ:TJ:=(List.range 10).map (48+·)
def Ey:Str:="0123456789"
def GR:Ey=S GQ:=by decide +kernel
def BS(c:Nat)(h:48<=c/\c<=57):c∈GQ:=Kr.mpr ⟨c-48,K1.mpr zo,zo⟩
section
def rD:dJ X (.type "int") (fun xs H Q=>∃n:Nat,xs=[.str (toString (n:Int):Str)]/\n<1000000000/\Q (.int n) H):=by
 walk_at "J";obtain⟨n,rfl,hn,q⟩:=h;obtain⟨u,rfl,rx⟩:=i5 r;obtain⟨t,rfl⟩:=rx;exact PySem.W.KIN.call_num zo zo ⟨.int n,H,I.tok _,⟨_,rfl⟩,q⟩
end
section
def tH:av [Tp] [Tp] (ak gX):=cV zk
def rE(F:Ob K "number_of" "number_of" gX f fd)(T:Bl mg)(hF:mg "FIGURES"=some (.str Ey tF))(hM:mg "MOST_FIGURES"=some (.int 9 tM)):NZ P w K mg base bZ 1 f fd [Tp] pb:=by
 have ZZ:=tH
 walk_at "o"
 ·obtain⟨n,rfl,hn,q⟩:=h;refine⟨_,af (aQ (PW.pt (dP (cr (qE i4 i4 ah (aC bN (by rfl) T.len Kt (aa (pv 0) ac)) (bi (v:=.int 9) rfl hM ⟨_,rfl⟩)))
    (c8 (cr (bU (aC (gF rfl) (by rfl) T.all fH (aa (dQ (N':=["sign"]) (ix:=[none]) (sc0:=ak gX) (N:=[Tp]) rfl zk (sM (pv 0))
     (fun C' cl s H fp=>cG (i:=0) Ew) (fun _ _ _ _ _=>dM) (fun C' cl s H fp=>cq fA (pv 0) (bi (v:=.str Ey) rfl hF ⟨_,rfl⟩) rfl)) ac))))))) (aj (aq iw)) aB)
   (af (aQ (PW.pt (bY (ap aW (ax jF (pv 0) ah) ai) (bM (ap nC (aC bN (by rfl) T.len Kt (aa (pv 0) ac)) ah)))) (aj (aq iw)) aB)
   (aj (aq (aV rD (by rfl) T.int K8 (aa (pv 0) ac))))),?_⟩
  have es:=iM n;obtain⟨l1,l9'⟩:=gN n;have l9:=l9' 9 zd zo;walk_at "v"
  rw[es];refine⟨_,rfl,S (dg n),rfl,(by rw[aG];lia),_,_,rfl,rfl,_,rfl,?_⟩;rw[aG];refine bD (b_ zo) ⟨_,_,rfl,rfl,_,rfl,?_⟩;rw[b_ (show((dg n).length:Int)<=9 by lia)];refine bK ⟨_,rfl,dg n,rfl,?_⟩;refine sN (fun i ys H'=>ys=(List.replicate i true).map V.bl/\NV H H') ⟨rfl,NV.refl _⟩ (fun i ys H' hi⟨e,_⟩=>by rw[e,JY,Lm];lia) ?_ ?_
  ·rintro i ys H' hi ⟨rfl,s'⟩;refine⟨trivial,dN ?_⟩;refine⟨_,rfl,S [(dg n)[i]],_,rfl,rfl,?_⟩;rw[GR,gU,b_ (BS _ (ma n _ (KJ hi)))];refine Nx.mk hi ⟨?_,s'⟩;rw[Rr,Kb];rfl
  ·rintro ys H' ⟨rfl,s'⟩ D hD;have s2:=ag (o:=.lst ((List.replicate (dg n).length true).map V.bl)) hD;refine⟨D,List.replicate (dg n).length true,rfl,N0.of ae,?_⟩;have ea:(List.replicate (dg n).length true).all id=true:=by simp
   rw[ea];refine⟨_,rfl,bK ?_⟩;refine⟨_,rfl,S (dg n),0,(dg n)[0],rfl,rfl,(by rw[aG];lia),?_,rfl,_,rfl,?_⟩
   ·exact jd (i:=0) zo
   ·by_cases hz:n=0
    ·subst hz;have e00:(dg 0)[0]=48:=by simp[rC (n:=0) zd]
     refine bD (b_ (by rw[e00];decide +kernel)) ?_;refine⟨_,rfl,S (dg 0),rfl,(by rw[aG];lia),_,_,rfl,rfl,_,rfl,be zk ?_⟩;exact⟨_,rfl,0,by rw[iM],hn,q _ (s'.trans s2)⟩
    ·have hd:=BR n zo;refine be ?_ (bK ?_)
     ·refine d_ fun e=>hd ?_;have e2:=V.str.inj e;have e3:S [(dg n)[0]]=S [48]:=e2.trans zk;have e4:[(dg n)[0]]=[48]:=by
       have:=e_ (fun z:Str=>z.cps.toList) e3;simpa[S]using this
      rw[J1 zo];exact e_ some (List.cons.inj e4).1
     ·exact⟨_,rfl,n,by rw[iM],hn,q _ (s'.trans s2)⟩
end
end L3
namespace L3
open PySem L2 TK
structure BU(K:ZF)(mg:Str->Option Tr)(aD:Ts)(tG tS:Tok):Prop where
 gaps:mg "GAPS"=some (.str " \n" tG)
 sing:mg "SINGLE_SIGNS"=some (.str "(){}[],;+-&|^<=" tS)
 doub:mg "DOUBLE_SIGNS"=some (.ref aD)
 sq:∀H,NY K H aD [.str "<<",.str ">>"]
 len:mg "len"=none
def vs(ts:List (TJ)):TQ:=ts.map fun t=>V.str (S t)
inductive pj(xs:TQ)(H:Hp)(Q:VK)(Z3:XK):Prop
 |mk(l:TJ)(i:Nat):xs=[.str (S l),.int i]->i<l.length->l.length<=100000->Q (.str (S ((l.drop i).take (jG (l.drop i))))) H->pj xs H Q Z3
inductive yM(xs:TQ)(H:Hp)(Q:VK)(Z3:XK):Prop
 |mk(l:TJ)(i:Nat):xs=[.str (S l),.int i]->i<l.length->l.length<=100000->Q (.str (S ((l.drop i).take (run (l.drop i))))) H->yM xs H Q Z3
inductive tI(xs:TQ)(H:Hp)(Q:VK)(Z3:XK):Prop
 |mk(l:TJ):xs=[.str (S l)]->l.length<=100000->(∀(p:Ts)(H':Hp),H p=none->H' p=some (.lst (vs (toks l)))->NV H H'->Q (.ref p) H')->tI xs H Q Z3
variable{i:Nat}
def vq{l:TJ}(h:i<l.length):gf l (some (i:Int)) (some ((i:Int)+2))=(l.drop i).take 2:=by
 unfold gf;have e:((i:Int)+2)=((i+2:Nat):Int):=by lia
 rw[e,HT.sIx_nat,HT.sIx_nat,show min i l.length=i by lia];by_cases c:i+2<=l.length
 ·rw[show min (i+2) l.length-i=2 by lia]
 ·rw[K6 (by rw[KU];lia),K6 (by rw[KU];lia)]
def Ez{l:TJ}{i j:Nat}(h:j<=l.length):gf l (some (i:Int)) (some (j:Int))=(l.drop i).take (j-i):=by
 unfold gf;rw[HT.sIx_nat,HT.sIx_nat,show min j l.length=j by lia];by_cases c:i<=l.length
 ·rw[show min i l.length=i by lia]
 ·rw[show min i l.length=l.length by lia,List.drop_length,List.drop_eq_nil_of_le zo];simp
def gZ{l:TJ}(h:i<l.length):l.drop i=l[i]::l.drop (i+1):=KP h
def yN:(" \n":Str)=S [32,10]:=by decide +kernel
def EA:("(){}[],;+-&|^<=":Str)=S [40,41,123,125,91,93,44,59,43,45,38,124,94,60,61]:=by decide +kernel
def IQ:("<<":Str)=S [60,60]:=by decide +kernel
def IS:(">>":Str)=S [62,62]:=by decide +kernel
def vx(c:Nat):decide (c∈[32,10])=gx c:=by
 rw[La,P_];unfold gx;simp
def BV(c:Nat):decide (c∈[40,41,123,125,91,93,44,59,43,45,38,124,94,60,61])=dD c:=by
 rw[La,P_];unfold dD;rw[KM]
def BW(t:TJ):ky (.str (S t)) [.str "<<",.str ">>"]=(decide (t=[60,60])||decide (t=[62,62])):=by
 unfold ky;rw[IQ,IS];show((S [60,60]==S t)||((S [62,62]==S t)||false))=_;have e:∀u:TJ,(S u==S t)=decide (t=u):=fun u=>by
  rw[La,P_,Ro,Po];exact⟨fun h=>h.symm,fun h=>h.symm⟩
 rw[e,e,Bool.or_false]
section
def EB:av [SQ,"at"] [SQ,"at"] (ak yz):=cV zk
def BX{f aD:Ts}{fd:TB}{tG tS:Tok}(F:Ob K "sign_at" "sign_at" yz f fd)(T:BU K mg aD tG tS):NZ P w K mg base bZ 1 f fd [SQ,"at"] pj:=by
 have ZZ:=EB
 walk_at "o"
 ·obtain⟨l,i,rfl,hi,hz,q⟩:=h;walk_at "v"
  refine⟨_,af (aQ (ap eI (dC lM (pv 0) (cW (pv 1)) (cW (aA bV (pv 1) ah))) (bi (v:=.ref aD) rfl T.doub rfl) rfl) (aj (aq (dC lM (pv 0) (cW (pv 1)) (cW (aA bV (pv 1) ah))))) aB)
   (af (aQ (ap fA (ax jF (pv 0) (pv 1)) (bi (v:=.str "(){}[],;+-&|^<=") rfl T.sing ⟨_,rfl⟩) rfl) (aj (aq (ax jF (pv 0) (pv 1)))) aB)
   (aj (aq ai))),?_⟩
  refine⟨_,rfl,_,rfl,_,rfl,_,rfl,_,_,rfl,rfl,_,rfl,l,rfl,hz,?_⟩;rw[vq hi];refine⟨aD,_,rfl,.inr (T.sq H),rfl,rfl,_,rfl,?_⟩;show if ky (.str (S ((l.drop i).take 2))) [.str "<<",.str ">>"]=true then _ else _;have two:jG (l.drop i)=if ky (.str (S ((l.drop i).take 2))) [.str "<<",.str ">>"]=true then 2 else if dD l[i]=true then 1 else 0:=by
   rw[BW,gZ hi];cases hd:l.drop (i+1)with
   |nil=>rw[eZ];simp
   |cons d r=>
    rw[eA];simp
  by_cases c:ky (.str (S ((l.drop i).take 2))) [.str "<<",.str ">>"]=true
  ·rw[g_ c]at two;refine bD c ?_;refine⟨_,rfl,_,rfl,_,rfl,_,rfl,_,_,rfl,rfl,_,rfl,l,rfl,hz,?_⟩;rw[vq hi];rw[two]at q;exact q
  ·rw[f_ c]at two;refine be (by simpa using c) ?_;refine⟨_,rfl,_,rfl,_,_,l[i],rfl,rfl,(by rw[aG];lia),jd hi,_,_,rfl,rfl,_,rfl,?_⟩;rw[EA];have e:=gU l[i] [40,41,123,125,91,93,44,59,43,45,38,124,94,60,61];rw[BV]at e;by_cases c2:dD l[i]=true
   ·rw[g_ c2]at two;refine bD (e.trans c2) ?_;refine⟨_,rfl,_,rfl,_,_,l[i],rfl,rfl,(by rw[aG];lia),jd hi,?_⟩;rw[two,gZ hi]at q;exact q
   ·rw[f_ c2]at two;refine be (e.trans (by simpa using c2)) ?_;rw[two]at q;exact q
end
section
def Qz:av [SQ,"at","behind"] [SQ,"at"] (ak Em):=cV zk
def take_nil{l:TJ}{n:Nat}(h:n<=l.length):l.take n=[]↔n=0:=by
 constructor
 ·intro e;have:=e_ List.length e;rw[J9,Ke]at this;lia
 ·intro e;rw[e,List.take_zero]
variable{tG tS:Tok}{fd:TB}{f aD:Ts}
def EC(F:Ob K "run_at" "run_at" Em f fd)(T:BU K mg aD tG tS)(SG:Fn P w K mg base "sign_at" 1 [SQ,"at"] pj):NZ P w K mg base bZ 2 f fd [SQ,"at"] yM:=by
 have ZZ:=Qz
 walk_at "o"
 ·obtain⟨l,i,rfl,hi,hz,q⟩:=h;walk_at "v"
  have sl:(S l).length<=sizeLine:=by rw[aG];lia
  refine⟨_,af (bL (i:=2) Qz.nd (pv 1))
   (af (fz h_ (PW.pt (bY (ap dY (pv 2) (aC bN (by rfl) T.len Kt (aa (pv 0) ac)))
     (bY (ap oJ (ax jF (pv 0) (pv 2)) (bi (v:=.str " \n") rfl T.gaps ⟨_,rfl⟩) rfl) (bM (ap aW (ar SG hr rfl (aa (pv 0) (aa (pv 2) ac))) ai)))))
    (aj (sB (i:=2) Qz.nd rfl (Or.inl rfl) ah sC)))
   (aj (aq (dC lM (pv 0) (cW (pv 1)) (cW (pv 2)))))),?_⟩
  refine⟨_,rfl,?_⟩;refine⟨fun m σ H'=>∃k:Nat,σ=[some (.str (S l)),some (.int i),some (.int (i+k:Nat))]/\m=l.length-(i+k)/\i+k<=l.length/\run (l.drop i)=k+run (l.drop (i+k))/\H'=H,
   ⟨_,0,rfl,rfl,zo,by rw[Nat.add_zero,Nat.zero_add],rfl⟩,?_⟩
  rintro m σ H' ⟨k,rfl,rfl,hk,ZB,rfl⟩;have WT:run (l.drop (i+k))=0->Gj (Jv (fun x lo hi H Q=>∃l,x=.str (S l)/\l.length<=100000/\Q (.str (S (gf l lo hi))) H) (lA 0) (yi (lA 1)) (yi (lA 2))) {nx:=fun _ H'=>Q .non H',rt:=Q} [some (.str (S l)),some (.int i),some (.int (i+k:Nat))] H':=fun e=>by
   refine⟨_,rfl,_,rfl,_,rfl,_,rfl,_,rfl,l,rfl,hz,?_⟩;rw[Ez hk,show i+k-i=k by lia];rw[ZB,e,Nat.add_zero]at q;exact q
  refine⟨_,rfl,_,rfl,S l,rfl,sl,_,_,rfl,rfl,_,rfl,?_⟩;by_cases c:i+k<l.length
  ·refine bD (b_ (by rw[aG];lia)) ?_;refine⟨_,rfl,_,rfl,_,_,l[i+k],rfl,rfl,sl,jd c,_,_,rfl,rfl,_,rfl,?_⟩;rw[yN];have e:=gU l[i+k] [32,10];rw[vx]at e;have e':(!(!(Builtin.Str.occurrences (S [32,10]) (S [l[i+k]]) 0 (S [32,10]).length 1).isEmpty))=!gx l[i+k]:=by rw[e]
   have rc:run (l.drop (i+k))=if(gx l[i+k]||jG (l.drop (i+k)) != 0)=true then 0 else 1+run (l.drop (i+k+1)):=by
    rw[gZ c,cB]
   cases g:gx l[i+k]with
   |true=>
    refine be (e'.trans (by rw[g];rfl)) (bK ?_);exact WT (by rw[rc,g];rfl)
   |false=>
    refine bD (e'.trans (by rw[g];rfl)) ?_;refine⟨_,rfl,_,rfl,l,i+k,rfl,c,hz,rfl,_,rfl,?_⟩;rw[GO];by_cases s0:jG (l.drop (i+k))=0
    ·refine bD (b_ (by rw[s0];rfl)) ?_;refine⟨fun σ' H2=>σ'=[some (.str (S l)),some (.int i),some (.int (i+(k+1):Nat))]/\H2=H',fun σ' H2⟨e1,e2⟩=>⟨l.length-(i+(k+1)),zo,k+1,e1,rfl,zo,?_,e2⟩,?_⟩
     ·rw[ZB,rc,g,s0];show k+(1+run (l.drop (i+k+1)))=_;rw[Nat.add_assoc i k 1];lia
     ·refine⟨_,rfl,_,_,rfl,rfl,?_,rfl⟩;show [some (V.str (S l)),some (V.int i),some (V.int (((i+k:Nat):Int)+1))]=_;rw[show(((i+k:Nat):Int)+1)=((i+(k+1):Nat):Int)by lia]
    ·refine be (d_ ?_) ?_
     ·intro z;injection z with z';have:=(take_nil (oR (l.drop (i+k)))).mp (Po.mp z');exact s0 this
     ·exact WT (by rw[rc,g];simp[s0])
  ·refine be (d_ (by rw[aG];lia)) (bK ?_);have:l.drop (i+k)=[]:=List.drop_eq_nil_of_le zo;exact WT (by rw[this];rfl)
def OV:av [SQ,SE,"at",Tp] [SQ] (ak oY):=cV zk
def yO(a b:List (TJ)):vs (a++b)=vs a++vs b:=Kb
def yP(a:List (TJ)):(vs a).length=a.length:=JY _
def BY(F:Ob K "tokens_of" "tokens_of" oY f fd)(T:BU K mg aD tG tS)(SG:Fn P w K mg base "sign_at" 1 [SQ,"at"] pj)(RN:Fn P w K mg base "run_at" 2 [SQ,"at"] yM):
  NZ P w K mg base bZ 3 f fd [SQ] tI:=by
 have ZZ:=OV
 walk_at "o"
 ·obtain⟨l,rfl,hz,q⟩:=h;have sz:(100000:Nat)<sizeLine:=by decide
  have sl:(S l).length<=sizeLine:=by rw[aG];lia
  refine⟨_,af (bL (i:=1) OV.nd (aT ac))
   (af (bL (i:=2) OV.nd ah)
   (af (fz h_ (ap dY (pv 2) (aC bN (by rfl) T.len Kt (aa (pv 0) ac)))
    (aj (aQ (ap fA (ax jF (pv 0) (pv 2)) (bi (v:=.str " \n") rfl T.gaps ⟨_,rfl⟩) rfl) (aj (sB (i:=2) OV.nd rfl (Or.inl rfl) ah sC))
     (af (bL (i:=3) OV.nd (Eg (ar SG hr.m rfl (aa (pv 0) (aa (pv 2) ac))) (fW (ar RN hr rfl (aa (pv 0) (aa (pv 2) ac))))))
     (af (aM (cu Kp Kk Kj bz (pv 1) (aa (pv 3) ac)))
     (aj (sB (i:=2) OV.nd rfl (Or.inl rfl) (aC bN (by rfl) T.len Kt (aa (pv 3) ac)) sC)))))))
   (aj (aq (pv 1))))),?_⟩
  refine⟨N5,fun p hp=>?_⟩;refine⟨fun m σ H'=>∃(k:Nat)(ts:List (TJ))(v:Option V),σ=[some (.str (S l)),some (.ref p),some (.int k),v]/\m=l.length-k/\k<=l.length/\H' p=some (.lst (L3.vs ts))/\NV H H'/\ts++toks (l.drop k)=toks l/\ts.length<=k,
   ⟨_,0,[],none,rfl,rfl,zo,ae,ag hp,rfl,J2 _⟩,?_⟩
  rintro m σ H' ⟨k,ts,v,rfl,rfl,hk,g,s1,e,hl⟩;refine⟨_,rfl,_,rfl,S l,rfl,sl,_,_,rfl,rfl,_,rfl,?_⟩;by_cases c:k<l.length
  ·refine bD (b_ (by rw[aG];lia)) ?_;refine⟨fun σ' H2=>∃(k':Nat)(YD:List (TJ))(v':Option V),σ'=[some (.str (S l)),some (.ref p),some (.int k'),v']/\k<k'/\k'<=l.length/\H2 p=some (.lst (L3.vs YD))/\NV H H2/\YD++toks (l.drop k')=toks l/\YD.length<=k',
    fun σ' H2⟨k',YD,v',e1,e2,e3,e4,e5,e6,e7⟩=>⟨l.length-k',zo,k',YD,v',e1,rfl,e3,e4,e5,e6,e7⟩,?_⟩
   refine⟨_,rfl,_,rfl,_,_,l[k],rfl,rfl,sl,jd c,_,_,rfl,rfl,_,rfl,?_⟩;rw[yN];have ec:=gU l[k] [32,10];rw[vx]at ec;cases gg:gx l[k]with
   |true=>
    refine bD (ec.trans gg) ?_;refine⟨_,rfl,_,_,rfl,rfl,?_⟩;refine⟨k+1,ts,v,?_,zo,c,g,s1,?_,zo⟩
    ·show [some (V.str (S l)),some (V.ref p),some (V.int ((k:Int)+1)),v]=_;rw[show((k:Int)+1)=((k+1:Nat):Int)by lia]
    ·rw[<-e,gZ c,lK gg]
   |false=>
    refine be (ec.trans gg) ?_;refine⟨_,rfl,_,rfl,l,k,rfl,c,hz,?_⟩;have dl:(l.drop k).length=l.length-k:=KU;have ol:=Ef (l.drop k);have op:0<one (l.drop k):=by rw[gZ c];exact kB gg
    have tk:ts++[(l.drop k).take (one (l.drop k))]++toks (l.drop (k+one (l.drop k)))=toks l:=by
     rw[<-e,KH,show l.drop (k+one (l.drop k))=(l.drop k).drop (one (l.drop k))by rw[List.drop_drop]]
     congr 1
     rw[gZ c,qP gg];rfl
    have tl:((l.drop k).take (one (l.drop k))).length=one (l.drop k):=by rw[J9];lia
    have tz:((l.drop k).take (jG (l.drop k))).length<=100000:=by rw[J9];lia
    refine⟨_,rfl,tz,?_⟩;by_cases s0:jG (l.drop k)=0
    ·rw[g_ ((take_nil (oR _)).mpr s0)];refine⟨_,rfl,_,rfl,l,k,rfl,c,hz,?_⟩;rw[show run (l.drop k)=one (l.drop k)from(g_ s0).symm];refine⟨_,rfl,.inl ⟨rfl,_,N0.of g⟩,_,rfl,p,_,_,rfl,rfl,g,(by rw[yP];lia),?_⟩;refine⟨_,rfl,_,rfl,S ((l.drop k).take (one (l.drop k))),rfl,(by rw[aG];lia),_,_,rfl,rfl,?_⟩;refine⟨k+one (l.drop k),ts++[(l.drop k).take (one (l.drop k))],some (.str (S ((l.drop k).take (one (l.drop k))))),?_,zo,zo,?_,ci hp s1,tk,by rw[JU];simp;lia⟩
     ·show [some (V.str (S l)),some (V.ref p),some (V.int ((k:Int)+((S ((l.drop k).take (one (l.drop k)))).length:Int))),some (V.str (S ((l.drop k).take (one (l.drop k)))))]=_;rw[aG,tl,show((k:Int)+(one (l.drop k):Int))=((k+one (l.drop k):Nat):Int)by lia]
     ·rw[ae,yO];rfl
    ·rw[f_ (fun z=>s0 ((take_nil (oR _)).mp z))];rw[show jG (l.drop k)=one (l.drop k)from(f_ s0).symm];refine⟨_,rfl,.inl ⟨rfl,_,N0.of g⟩,_,rfl,p,_,_,rfl,rfl,g,(by rw[yP];lia),?_⟩;refine⟨_,rfl,_,rfl,S ((l.drop k).take (one (l.drop k))),rfl,(by rw[aG];lia),_,_,rfl,rfl,?_⟩;refine⟨k+one (l.drop k),ts++[(l.drop k).take (one (l.drop k))],some (.str (S ((l.drop k).take (one (l.drop k))))),?_,zo,zo,?_,ci hp s1,tk,by rw[JU];simp;lia⟩
     ·show [some (V.str (S l)),some (V.ref p),some (V.int ((k:Int)+((S ((l.drop k).take (one (l.drop k)))).length:Int))),some (V.str (S ((l.drop k).take (one (l.drop k)))))]=_;rw[aG,tl,show((k:Int)+(one (l.drop k):Int))=((k+one (l.drop k):Nat):Int)by lia]
     ·rw[ae,yO];rfl
  ·refine be (d_ (by rw[aG];lia)) ?_;have:k=l.length:=by lia
   subst this;rw[List.drop_length,qO,KB]at e;subst e;exact⟨_,rfl,q p H' hp g s1⟩
end
end L3
namespace L3
open PySem L2
def BZ(l:TJ):Bool:=!OS.contains (S l)&&(decide (1<=l.length)&&(decide (l.length<=8)&&l.all fun c=>decide (c∈je)))
inductive yQ(vs:TQ)(H:Hp)(Q:VK)(Z3:XK):Prop
 |mk(l:TJ):vs=[.str (S l)]->l.length<=1000->(∀H',NV H H'->Q (.bl (BZ l)) H')->yQ vs H Q Z3
section
def yR(F:Ob K "is_name" "is_name" nZ f fd)(T:Bl mg)(C:Ev K mg aO tL tN):NZ P w K mg base bZ 1 f fd [SS] yQ:=by
 have ZZ:=yK
 walk_at "o"
 ·obtain⟨l,rfl,hl,q⟩:=h;refine⟨_,af (aQ (PW.pt (dP (cr (bU (aC (dE (T:="str")) (by rfl) T.isinstance bP (aa (pv 0) (aa (ef (by rfl) T.str cH) ac)))))
    (c8 (ap eI (pv 0) (bi (v:=.ref aO) rfl C.own rfl) rfl)))) (aj (aq fw)) aB)
   (aj (aq (fX (lD i4 i4 ah (aC bN (by rfl) T.len Kt (aa (pv 0) ac)) (bi (v:=.int 8) rfl C.lng ⟨_,rfl⟩))
    (fW (aC (gF rfl) (by rfl) T.all fH (aa (dQ (N':=["sign"]) (ix:=[none]) (sc0:=ak nZ) (N:=[SS]) rfl zk (sM (pv 0))
     (fun C' cl s H fp=>cG (i:=0) Ew) (fun _ _ _ _ _=>dM) (fun C' cl s H fp=>cq fA (pv 0) (bi (v:=.str BP) rfl C.lets ⟨_,rfl⟩) rfl)) ac)))))),?_⟩
  walk_at "v"
  refine⟨_,rfl,_,_,_,rfl,.str _,rfl,_,rfl,bK ?_⟩;have Zk:ky (.str (S l)) (al OS)=OS.contains (S l):=dR _ _;refine⟨_,rfl,aO,al OS,rfl,.inr (C.sq H),rfl,dm _,_,rfl,bW (fun h=>?_) (fun h=>?_)⟩
  ·have h':OS.contains (S l)=true:=by rw[<-Zk];exact h
   have e:BZ l=false:=by unfold BZ;rw[h'];rfl
   have:=q H (NV.refl _);rw[e]at this;exact this
  ·have h':OS.contains (S l)=false:=by rw[<-Zk];exact Lo.mpr h
   have e:BZ l=(decide (1<=l.length)&&(decide (l.length<=8)&&l.all fun c=>decide (c∈je))):=by unfold BZ;rw[h'];rfl
   rw[e]at q;refine⟨_,rfl,S l,rfl,(by rw[aG];lia),_,_,rfl,rfl,_,rfl,?_⟩;rw[aG];refine bW (fun h1=>?_) (fun h1=>?_)
   ·have h1':1<=l.length:=by have:=k_ h1;lia
    refine⟨_,_,rfl,rfl,_,rfl,bW (fun h2=>?_) (fun h2=>?_)⟩
    ·have Zi:l.length<=8:=by have:=k_ h2;lia
     refine⟨_,rfl,l,rfl,?_⟩;refine sN (fun i ys H'=>ys=((l.take i).map fun c=>decide (c∈je)).map V.bl/\NV H H') ⟨rfl,NV.refl _⟩ (fun i ys H' hi⟨e,_⟩=>by rw[e,JY,JY,J9];lia) ?_ ?_
     ·rintro i ys H' hi ⟨rfl,s'⟩;refine⟨trivial,dN ?_⟩;refine⟨_,rfl,S [l[i]],_,rfl,rfl,?_⟩;rw[Ds,gU];refine Nx.mk hi ⟨?_,s'⟩;rw[KE,J1 hi,Kb,Kb];rfl
     ·rintro ys H' ⟨rfl,s'⟩ D hD;rw[Ky];refine⟨D,l.map fun c=>decide (c∈je),rfl,N0.of ae,?_⟩;have:=q _ (s'.trans (ag (o:=.lst ((l.map fun c=>decide (c∈je)).map V.bl)) hD));rw[b_ h1',b_ Zi]at this;have ea:(l.map fun c=>decide (c∈je)).all id=l.all fun c=>decide (c∈je):=by rw[RK];rfl
      rw[ea];exact this
    ·have Zi:¬l.length<=8:=fun z=>h2 (b_ zo);have:=q H (NV.refl _);rw[b_ h1',d_ Zi]at this;exact this
   ·have h1':¬1<=l.length:=fun z=>h1 (b_ zo);have:=q H (NV.refl _);rw[d_ h1']at this;exact⟨_,rfl,bK this⟩
end
def ED(h:N8 z):BZ z.cps.toList=true:=by
 obtain⟨h0,h1,h2,h3⟩:=h;have ez:=yC z;have zl:z.length=z.cps.toList.length:=by show z.cps.size=_;simp
 unfold BZ;rw[<-ez,Lo.mpr fun e=>h0 (KM.mp e),b_ zo,b_ zo];have:(z.cps.toList.all fun c=>decide (c∈je))=true:=KC.mpr fun c hc=>b_ (vo _ (h3 c hc));rw[this];rfl
def GS(n:Nat):BZ (dg n)=false:=by
 unfold BZ;have hl:=(gN n).1;have:(dg n).all (fun c=>decide (c∈je))=false:=by
  rw[List.all_eq_false];cases e:dg n with
  |nil=>rw[e]at hl;simp at hl
  |cons c r=>
   refine⟨c,JW,?_⟩;have hc:=ma n c (by rw[e];exact JW);have VJ:∀c,48<=c->c<=57->¬c∈je:=by
    intro c h1 h2 hm;have:∀x∈je,97<=x:=by decide
    have:=this c hm;lia
   simp[VJ c hc.1 hc.2]
 rw[this];simp
def At(ts:TH)(k:Nat)(l:TH):Prop:=∀(i:Nat)(z:Str),l[i]?=some z->(tz ts)[k+i]?=some z
def At.hd(h:At ts k (x::l)):(tz ts)[k]?=some x:=h 0 x rfl
def At.tl(h:At ts k (x::l)):At ts (k+1) l:=fun i z e=>by
 have:=h (i+1) z (by simpa using e);rw[show k+(i+1)=k+1+i by lia]at this;exact this
def At.l(h:At ts k (a++b)):At ts k a:=fun i z e=>h i z (by rw[Lh (JV.mp e).1];exact e)
def At.r(h:At ts k (a++b)):At ts (k+a.length) b:=fun i z e=>by
 have:=h (a.length+i) z (by rw[Ld zo,show a.length+i-a.length=i by lia];exact e);rw[show k+(a.length+i)=k+a.length+i by lia]at this;exact this
inductive Ex where
 |num (n:Nat)
 |nm (z:Str)
 |cell (e:Ex)
 |two (o:Str) (x y:Ex)
def Oi:TH:=[("+":Str),("-":Str),("&":Str),("|":Str),("^":Str),("<<":Str),(">>":Str),("<":Str),("=":Str)]
def cU:Ex->TH
 |.num n=>[(toString (n:Int):Str)]
 |.nm z=>[z]
 |.cell e=>("[":Str)::(cU e++[("]":Str)])
 |.two o x y=>("(":Str)::(cU x++o::(cU y++[(")":Str)]))
def Pq(H:Hp):Ex->V->Prop
 |.num n,v=>∃p,v=.ref p/\H p=some (.tup [.str ("number":Str),.int (n:Nat)])
 |.nm z,v=>∃p,v=.ref p/\H p=some (.tup [.str ("name":Str),.str z])
 |.cell e,v=>∃p u,v=.ref p/\H p=some (.tup [.str ("cell":Str),u])/\Pq H e u
 |.two o x y,v=>∃p u t,v=.ref p/\H p=some (.tup [.str o,u,t])/\Pq H x u/\Pq H y t
def Pq.kt(k:N9 H H'):∀{e:Ex}{v:V},Pq H e v->Pq H' e v
 |.num _,_,⟨p,a,b⟩=>⟨p,a,k _ _ b⟩
 |.nm _,_,⟨p,a,b⟩=>⟨p,a,k _ _ b⟩
 |.cell _,_,⟨p,u,a,b,c⟩=>⟨p,u,a,k _ _ b,Pq.kt k c⟩
 |.two _ _ _,_,⟨p,u,t,a,b,c,d⟩=>⟨p,u,t,a,k _ _ b,Pq.kt k c,Pq.kt k d⟩
def cO(w:Nat):Nat->Ex->Prop
 |_,.num n=>n<2^w
 |_,.nm z=>N8 z
 |0,.cell _=>False
 |m+1,.cell e=>cO w m e
 |0,.two _ _ _=>False
 |m+1,.two o x y=>o∈Oi/\cO w m x/\cO w m y
inductive Gs where
 |cell (a e:Ex)
 |nm (z:Str) (e:Ex)
def jf:Gs->TH
 |.cell a e=>("[":Str)::(cU a++("]":Str)::("=":Str)::(cU e++[(";":Str)]))
 |.nm z e=>z::("=":Str)::(cU e++[(";":Str)])
def Pk(H:Hp)(g:Gs)(v:V):Prop:=match g with
 |.cell a e=>∃p u t,v=.ref p/\H p=some (.tup [.str ("cell":Str),u,t])/\Pq H a u/\Pq H e t
 |.nm z e=>∃p t,v=.ref p/\H p=some (.tup [.str ("name":Str),.str z,t])/\Pq H e t
def Pk.kt(k:N9 H H'):∀{g:Gs}{v:V},Pk H g v->Pk H' g v
 |.cell _ _,_,⟨p,u,t,a,b,c,d⟩=>⟨p,u,t,a,k _ _ b,c.kt k,d.kt k⟩
 |.nm _ _,_,⟨p,t,a,b,c⟩=>⟨p,t,a,k _ _ b,c.kt k⟩
def Gs.isCell:Gs->Bool
 |.cell _ _=>true
 |.nm _ _=>false
def jT(w:Nat):Gs->Prop
 |.cell a e=>cO w 3 a/\cO w 3 e
 |.nm z e=>N8 z/\cO w 3 e
inductive En where
 |w0 (s:Str)
 |w1 (s z:Str)
def gA:En->TH
 |.w0 s=>[s]
 |.w1 s z=>[s,z]
inductive QV(H:Hp)(e:En)(v:V):Prop
 |mk(p:_):v=.ref p->H p=some (.tup ((gA e).map V.str))->QV H e v
def pq:En->Prop
 |.w0 s=>s∈([(SJ:Str),(SK:Str),(SN:Str)]:TH)
 |.w1 s z=>s∈([(S5:Str),(Su:Str),(Sk:Str)]:TH)/\N8 z/\(s=(Sk:Str)->z∉([(Ta:Str),(Te:Str)]:TH))
inductive Bd where
 |leaf (sets:List Gs) (en:En)
 |ite (top:Bool) (z:Str) (y n:Bd)
def bQ:List Gs->TH
 |[]=>[]
 |g::r=>("set":Str)::(jf g++bQ r)
def db:Bd->TH
 |.leaf s e=>("{":Str)::(bQ s++(gA e++[("}":Str)]))
 |.ite t z y n=>("{":Str)::(Tn:Str)::((if t then [(S3:Str),z]else [z])++(db y++(S9:Str)::(db n++[("}":Str)])))
inductive Pe(H:Hp)(t:Bool)(z:Str)(v:V):Prop
 |mk(p:_):v=.ref p->H p=some (.tup [.str (if t then(S3:Str)else(Tn:Str)),.str z])->Pe H t z v
def Qp(H:Hp):Bd->V->Prop
 |.leaf s e,v=>∃p q us u,v=.ref p/\H p=some (.tup [.str ("leaf":Str),.ref q,u])/\H q=some (.tup us)/\Paired (fun v g=>Pk H g v) us s/\QV H e u
 |.ite t z y n,v=>∃p u a b,v=.ref p/\H p=some (.tup [.str (Tn:Str),u,a,b])/\Pe H t z u/\Qp H y a/\Qp H n b
def eP(w:Nat):Nat->Bd->Prop
 |_,.leaf s e=>s.length<=4/\(∀g∈s,jT w g)/\(∀i j:Nat,∀g h,s[i]?=some g->s[j]?=some h->g.isCell=true->h.isCell=true->i=j)/\pq e
 |0,.ite _ _ _ _=>False
 |m+1,.ite _ z y n=>N8 z/\eP w m y/\eP w m n
inductive Ed where
 |num (n:Nat)
 |fld (j:Nat)
 |pl (b:Bool) (n:Nat)
 |mk(b:Bool)(n:Nat)
 |cell (e:Ed)
 |two (o:Str) (x y:Ed)
inductive Sd where
 |cell (a e:Ed)
 |pl (b:Bool) (n:Nat) (e:Ed)
 |mk(b:Bool)(n:Nat)(e:Ed)
inductive Ee where
 |w0 (s:Str)
 |fault (z:Str)
 |go (s:Str) (j:Nat)
inductive Tt where
 |top (b:Bool) (n:Nat)
 |pl (b:Bool) (n:Nat)
 |mk(b:Bool)(n:Nat)
inductive Dd where
 |leaf (s:List Sd) (e:Ee)
 |ite (t:Tt) (y n:Dd)
def nj:Sp:=fun _ _ _ _=>False
def eC:NZ P w K mg base bZ k f fd ps nj:=⟨fun _ _ _ _ h=>h.elim,fun _ _ _ _ _ _ _ _ _ _ _ _ _ h=>h.elim⟩
inductive md(C:Ts)(m:Nat)(vs:TQ)(H:Hp)(Q:VK)(Z3:XK):Prop
 |mk(a l ts k me e:_)(w b:Nat):vs=[.ref a,.int w,.int b]->b+m=3->w<=24->Om C H a l ts k me->At ts k (cU e)->cO w m e->(∀v H',Om C H' a l ts (k+(cU e).length) me->N4 a H H'->Pq H' e v->Q v H')->md C m vs H Q Z3
inductive rF(C:Ts)(m:Nat)(vs:TQ)(H:Hp)(Q:VK):Prop
 |mk(a l ts k me e:_)(w b:Nat):vs=[.ref a,.int w,.int b]->b+m=3->w<=24->Om C H a l ts k me->At ts k (cU (.cell e))->cO w m e->(∀v H',Om C H' a l ts (k+(cU (.cell e)).length) me->N4 a H H'->Pq H' (.cell e) v->Q v H')->rF C m vs H Q
def pw(C:Ts):Nat->Sp
 |0=>nj
 |m+1=>fun vs H Q _=>rF C m vs H Q
inductive vz(C:Ts)(m:Nat)(vs:TQ)(H:Hp)(Q:VK):Prop
 |mk(a l ts k me o x y:_)(w b:Nat):vs=[.ref a,.int w,.int b]->b+m=3->w<=24->Om C H a l ts k me->At ts k (cU (.two o x y))->o∈Oi->cO w m x->cO w m y->(∀v H',Om C H' a l ts (k+(cU (.two o x y)).length) me->N4 a H H'->Pq H' (.two o x y) v->Q v H')->vz C m vs H Q
def tJ(C:Ts):Nat->Sp
 |0=>nj
 |m+1=>fun vs H Q _=>vz C m vs H Q
structure ZE(mg:Str->Option Tr)(t5:Tok):Prop where
 mb:mg "MOST_BRACKETS"=some (.int 3 t5)
def Du:Sp:=fun vs H Q _=>vs=[]/\∀p,H p=none->Q (.ref p) (aI H p (.lst (al Oi)))
def N4.kt(b:N4 a H H')(h:H a=some (.ins C dx fs)):N9 H H':=fun c xs e=>b _ _ e (by
 rintro rfl;rw[h]at e;cases e)
def B0:Ex->Str
 |.num n=>(toString (n:Int):Str)
 |.nm z=>z
 |.cell _=>"["
 |.two _ _ _=>"("
def EE:∀{e:Ex},At ts k (cU e)->(tz ts)[k]?=some (B0 e)
 |.num _,h=>h.hd
 |.nm _,h=>h.hd
 |.cell _,h=>h.hd
 |.two _ _ _,h=>h.hd
def Dv{n:Nat}{t:TJ}(h:∀c∈t,c<48\/57<c):(toString (n:Int):Str)≠S t:=by
 rw[iM];intro e;have e':dg n=t:=e_ (fun z:Str=>z.cps.toList) e;have hl:=(gN n).1;cases ed:dg n with
 |nil=>rw[ed]at hl;simp at hl
 |cons c r=>
  have h1:=ma n c (by rw[ed];exact JW);have h2:=h c (by rw[<-e',ed];exact JW);lia
def pz(hn:N8 z)(h:∀c∈t,c<97\/122<c):z≠S t:=by
 intro e;have h1:=hn.2.1;have e':z.cps.toList=t:=e_ (fun z:Str=>z.cps.toList) e;have zl:z.length=z.cps.toList.length:=by show z.cps.size=_;simp
 cases et:t with
 |nil=>rw[e',et]at zl;simp at zl;lia
 |cons c r=>
  have hc:c∈z.cps.toList:=by rw[e',et];exact JW
  have h3:=hn.2.2.2 c hc;have h4:=h c (by rw[et];exact JW);lia
def EF:("[":Str)=S [91]:=by decide +kernel
def GT:("(":Str)=S [40]:=by decide +kernel
def yS:∀{e:Ex},cO w m e->(∀x,e≠.cell x)->B0 e≠"["
 |.num n,_,_=>by rw[EF];exact Dv (by simp)
 |.nm z,h,_=>by
  have hn:N8 z:=by cases m<;>exact h
  rw[EF];exact pz hn (by simp)
 |.cell x,_,h=>absurd rfl (h x)
 |.two _ _ _,_,_=>by show("(":Str)≠"[";decide +kernel
def yT:∀{e:Ex},cO w m e->(∀o x y,e≠.two o x y)->B0 e≠"("
 |.num n,_,_=>by rw[GT];exact Dv (by simp)
 |.nm z,h,_=>by
  have hn:N8 z:=by cases m<;>exact h
  rw[GT];exact pz hn (by simp)
 |.two o x y,_,h=>absurd rfl (h o x y)
 |.cell _,_,_=>by show("[":Str)≠"(";decide +kernel
section
def GU:av [] [] (ak El):=cV zk
def EG(F:Ob K "ops_told" "ops_told" El f fd)(T:Bl mg)(ho:mg "OPS"=some (.ref aO))(hd:kA w K aO kvs)(hk:kvs.map (·.1)=Oi)(lo:(aO==sysModules)=false):NZ P w K mg base bZ 1 f fd [] Du:=by
 have ZZ:=GU
 walk_at "o"
 ·obtain⟨rfl,q⟩:=h;refine⟨_,aj (aq (aV (nh rfl) (by rfl) T.list sZ (aa (bi (v:=.ref aO) rfl ho rfl) ac))),?_⟩;have hl:kvs.length=9:=by
   have:=e_ List.length hk;rw[JY]at this;exact this
  refine⟨aO,kvs,rfl,hd,by rw[hk];decide +kernel,lo,zo,fun p hp=>?_⟩;have e:(kvs.map fun kv=>V.str kv.1)=al Oi:=by
   unfold al;rw[<-hk,K2];rfl
  rw[e];exact q p hp
def Qb:av [Sb,R_,Sy,"address"] [Sb,R_,Sy] (ak jN):=cV zk
def mh(F:Ob K "read_cell" "read_cell" jN f fd)(T:sy P w K mg base C)(EX:Fn P w K mg base "read_expression" n [Sb,R_,Sy] (md C m))(hn:3<=n):NZ P w K mg base bZ (n+1) f fd [Sb,R_,Sy] (pw C (m+1)):=by
 have ZZ:=Qb
 walk_at "o"
 ·obtain⟨a,l,ts,k,me,e,w,b,rfl,hb,hw,hR,hA,hE,q⟩:=h;have LV:N1 2 _:=hr.mono zo;refine⟨_,af (aM (bq (pv 0) (aa (ay (aa ai ac)) ac)))
   (af (bL (i:=3) Qb.nd (ar EX hr rfl (aa (pv 0) (aa (pv 1) (aa (pv 2) ac)))))
   (af (aM (bq (pv 0) (aa (ay (aa ai ac)) ac)))
   (aj (aq (ay (aa ai (aa (pv 3) ac))))))),?_⟩
  obtain⟨f1,LW,M1,F1,B1⟩:=T.need;obtain⟨dx,ho⟩:=hR.ob;have TZ:At ts k (("[":Str)::(cU e++[("]":Str)])):=hA;refine⟨_,rfl,a,dx,C,f1,_,LW,2,[R8,Sz],_,rfl,ho,rfl,T.cl,M1,F1,LV,B1,N5,fun p1 n1=>?_⟩;have s1:=ag (o:=.tup [.str "["]) n1;refine⟨a,l,ts,k,me,"[",p1,["["],rfl,hR.same s1,TZ.hd,.inr (NY.of ae),JW,fun H1 r1 b1=>?_⟩;have WE:N4 a H H1:=(bO s1).trans b1;refine⟨_,rfl,_,rfl,_,rfl,a,l,ts,k+1,me,e,w,b,rfl,hb,hw,r1,TZ.tl.l,hE,fun u H2 r2 b2 v2=>?_⟩;obtain⟨UO,TV⟩:=r2.ob;refine⟨_,rfl,a,UO,C,f1,_,LW,2,[R8,Sz],_,rfl,TV,rfl,T.cl,M1,F1,LV,B1,N5,fun p3 n3=>?_⟩;have s3:=ag (o:=.tup [.str "]"]) n3;refine⟨a,l,ts,k+1+(cU e).length,me,"]",p3,["]"],rfl,r2.same s3,TZ.tl.r.hd,.inr (NY.of ae),JW,fun H4 r4 b4=>?_⟩;have Wp:N4 a H2 H4:=(bO s3).trans b4;refine⟨_,rfl,N5,fun p np=>?_⟩;have s5:=ag (o:=.tup [.str "cell",u]) np;have LS:k+(cU (.cell e)).length=k+1+(cU e).length+1:=by
   show k+(("[":Str)::(cU e++[("]":Str)])).length=_;simp;lia
  refine q _ _ (by rw[LS];exact r4.same s5) (((WE.trans b2).trans Wp).same s5) ⟨p,u,rfl,ae,?_⟩;exact(v2.kt (Wp.kt TV)).kt (ao s5)
def Pw:av [Sb,R_,Sy,"one","op","other"] [Sb,R_,Sy] (ak lS):=cV zk
def pA(F:Ob K "read_two" "read_two" lS f fd)(T:sy P w K mg base C)(EX:Fn P w K mg base "read_expression" n [Sb,R_,Sy] (md C m))(OP:Fn P w K mg base "ops_told" 1 [] Du)(hn:3<=n):NZ P w K mg base bZ (n+1) f fd [Sb,R_,Sy] (tJ C (m+1)):=by
 have ZZ:=Pw
 walk_at "o"
 ·obtain⟨a,l,ts,k,me,o,x,y,w,b,rfl,hb,hw,hR,hA,hop,hX,hY,q⟩:=h;have LV:N1 2 _:=hr.mono zo;have LU:N1 1 _:=hr.mono zo;refine⟨_,af (aM (bq (pv 0) (aa (ay (aa ai ac)) ac)))
   (af (bL (i:=3) Pw.nd (ar EX hr rfl (aa (pv 0) (aa (pv 1) (aa (pv 2) ac)))))
   (af (bL (i:=4) Pw.nd (bq (pv 0) (aa (Eo OP LU rfl) ac)))
   (af (bL (i:=5) Pw.nd (ar EX hr rfl (aa (pv 0) (aa (pv 1) (aa (pv 2) ac)))))
   (af (aM (bq (pv 0) (aa (ay (aa ai ac)) ac)))
   (aj (aq (ay (aa (pv 4) (aa (pv 3) (aa (pv 5) ac)))))))))),?_⟩
  obtain⟨f1,LW,M1,F1,B1⟩:=T.need;obtain⟨dx,ho⟩:=hR.ob;have TZ:At ts k (("(":Str)::(cU x++o::(cU y++[(")":Str)]))):=hA;have U5:=TZ.tl.r;refine⟨_,rfl,a,dx,C,f1,_,LW,2,[R8,Sz],_,rfl,ho,rfl,T.cl,M1,F1,LV,B1,N5,fun p1 n1=>?_⟩;have s1:=ag (o:=.tup [.str "("]) n1;refine⟨a,l,ts,k,me,"(",p1,["("],rfl,hR.same s1,TZ.hd,.inr (NY.of ae),JW,fun H1 r1 b1=>?_⟩;have WE:N4 a H H1:=(bO s1).trans b1;refine⟨_,rfl,_,rfl,_,rfl,a,l,ts,k+1,me,x,w,b,rfl,hb,hw,r1,TZ.tl.l,hX,fun u H2 r2 b2 v2=>?_⟩;obtain⟨UO,TV⟩:=r2.ob;refine⟨_,rfl,a,UO,C,f1,_,LW,2,[R8,Sz],_,rfl,TV,rfl,T.cl,M1,F1,LV,B1,rfl,fun p3 n3=>?_⟩;have s3:=ag (o:=.lst (al Oi)) n3;refine⟨a,l,ts,k+1+(cU x).length,me,o,p3,Oi,rfl,r2.same s3,U5.hd,.inl (N0.of ae),hop,fun H4 r4 b4=>?_⟩;have Wp:N4 a H2 H4:=(bO s3).trans b4;have v4:=v2.kt (Wp.kt TV);obtain⟨Va,Uv⟩:=r4.ob;refine⟨_,rfl,_,rfl,_,rfl,a,l,ts,k+1+(cU x).length+1,me,y,w,b,rfl,hb,hw,r4,U5.tl.l,hY,fun t H5 r5 b5 v5=>?_⟩;obtain⟨VO,UM⟩:=r5.ob;refine⟨_,rfl,a,VO,C,f1,_,LW,2,[R8,Sz],_,rfl,UM,rfl,T.cl,M1,F1,LV,B1,N5,fun p6 n6=>?_⟩;have s6:=ag (o:=.tup [.str ")"]) n6;refine⟨a,l,ts,k+1+(cU x).length+1+(cU y).length,me,")",p6,[")"],rfl,r5.same s6,U5.tl.r.hd,.inr (NY.of ae),JW,fun H7 r7 b7=>?_⟩;have b57:N4 a H5 H7:=(bO s6).trans b7;refine⟨_,rfl,_,rfl,_,rfl,N5,fun p np=>?_⟩;have s8:=ag (o:=.tup [.str o,u,t]) np;have LS:k+(cU (.two o x y)).length=k+1+(cU x).length+1+(cU y).length+1:=by
   show k+(("(":Str)::(cU x++o::(cU y++[(")":Str)]))).length=_;simp;lia
  refine q _ _ (by rw[LS];exact r7.same s8) (((((WE.trans b2).trans Wp).trans b5).trans b57).same s8) ⟨p,u,t,rfl,ae,?_,?_⟩
  ·exact((v4.kt (b5.kt Uv)).kt (b57.kt UM)).kt (ao s8)
  ·exact(v5.kt (b57.kt UM)).kt (ao s8)
def QC:av [Sb,R_,Sy,Tp] [Sb,R_,Sy] (ak jM):=cV zk
def kG(F:Ob K "read_expression" "read_expression" jM f fd)(T:sy P w K mg base C)(Z:ZE mg t5)(NM:Fn P w K mg base "is_name" 1 [SS] yQ)(CE:Fn P w K mg base "read_cell" n [Sb,R_,Sy] (pw C m))(TW:Fn P w K mg base "read_two" n [Sb,R_,Sy] (tJ C m))(hn:3<=n):NZ P w K mg base bZ (n+1) f fd [Sb,R_,Sy] (md C m):=by
 have ZZ:=QC
 walk_at "o"
 ·obtain⟨a,l,ts,k,me,e,w,b,rfl,hb,hw,hR,hA,hE,q⟩:=h;have LU:N1 1 _:=hr.mono zo;have Uu:N1 3 _:=hr.mono zo;refine⟨_,af (bL (i:=3) QC.nd (aN (pv 0)))
   (af (aQ (c9 (fun _ H'=>H'=H/\∃x,e=.cell x) (fun _ H'=>H'=H/\∀x,e≠.cell x) (PW.pt (bY (ap dY (pv 2) (bi (v:=.int 3) rfl Z.mb ⟨_,rfl⟩)) (bM (ap aW (pv 3) ai))))) (aj (aq (ar CE hr rfl (aa (pv 0) (aa (pv 1) (aa (aA bV (pv 2) ah) ac)))))) aB)
   (af (aQ (c9 (fun _ H'=>H'=H/\∃o x y,e=.two o x y) (fun _ H'=>H'=H/\∀o x y,e≠.two o x y) (PW.pt (bY (ap dY (pv 2) (bi (v:=.int 3) rfl Z.mb ⟨_,rfl⟩)) (bM (ap aW (pv 3) ai))))) (aj (aq (ar TW hr rfl (aa (pv 0) (aa (pv 1) (aa (aA bV (pv 2) ah) ac)))))) aB)
   (af (aQ (bU (ar NM LU rfl (aa (pv 3) ac))) (aj (aq (ay (aa ai (aa (aN (pv 0)) ac))))) aB)
   (aj (aq (ay (aa ai (aa (bq (pv 0) (aa ah (aa (aA fY (aA xW ah (pv 1)) ah) ac))) ac)))))))),?_⟩
  obtain⟨f1,LW,M1,F1,B1⟩:=T.look;obtain⟨f2,Um,M2,F2,B2⟩:=T.take;obtain⟨f3,Uf,M3,F3,B3⟩:=T.nnum;obtain⟨dx,ho⟩:=hR.ob;have hz:=EE hA;refine⟨_,rfl,a,dx,C,f1,_,LW,1,[R8],_,rfl,ho,rfl,T.cl,M1,F1,LU,B1,a,l,ts,k,me,B0 e,rfl,hR,hz,?_⟩;refine⟨?_,?_,?_⟩
  ·rintro H' ⟨rfl,x,rfl⟩;cases m with
   |zero=>exact absurd hE (by simp[cO])
   |succ m=>
    refine⟨_,rfl,_,rfl,_,rfl,_,_,rfl,rfl,a,l,ts,k,me,x,w,b+1,rfl,zo,hw,hR,hA,hE,q⟩
  ·rintro H' ⟨rfl,hnc⟩;refine⟨?_,?_,?_⟩
   ·rintro H' ⟨rfl,o,x,y,rfl⟩;cases m with
    |zero=>exact absurd hE (by simp[cO])
    |succ m=>
     obtain⟨h1,h2,h3⟩:=hE;exact⟨_,rfl,_,rfl,_,rfl,_,_,rfl,rfl,a,l,ts,k,me,o,x,y,w,b+1,rfl,zo,hw,hR,hA,h1,h2,h3,q⟩
   ·rintro H' ⟨rfl,VU⟩;cases e with
    |cell x=>exact absurd rfl (hnc x)
    |two o x y=>exact absurd rfl (VU o x y)
    |nm z=>
     have hN:N8 z:=by cases m<;>exact hE
     have hS:=yC z;refine⟨_,rfl,z.cps.toList,e_ (fun x=>[V.str x]) hS,?_,fun H1 s1=>⟨_,rfl,bD (ED hN) ?_⟩⟩
     ·have zl:z.length=z.cps.toList.length:=by show z.cps.size=_;simp
      have:=hN.2.2.1;lia
     refine⟨_,rfl,a,dx,C,f2,_,Um,1,[R8],_,rfl,s1 _ _ ho,rfl,T.cl,M2,F2,LU,B2,a,l,ts,k,me,z,rfl,hR.same s1,hz,fun H2 r2 b2=>?_⟩;refine⟨N5,fun p np=>?_⟩;have s3:=ag (o:=.tup [.str "name",.str z]) np;exact q _ _ (r2.same s3) (((bO s1).trans b2).same s3) ⟨p,rfl,ae⟩
    |num i=>
     have hi:i<2^w:=by cases m<;>exact hE
     have h24:2^w<=2^24:=KS zd hw;have hS:=iM i;refine⟨_,rfl,dg i,e_ (fun x=>[V.str x]) hS,?_,fun H1 s1=>⟨_,rfl,be (GS i) ?_⟩⟩
     ·have:=(gN i).2 8 zd zo;lia
     have hpw:(1*2^((w:Int)).toNat-1:Int)=((2^w-1:Nat):Int):=by
      rw[Lf,Int.one_mul];have:0<2^w:=Ru zd;have e2:((2^w:Nat):Int)=(2:Int)^w:=by norm_cast
      lia
     refine⟨_,rfl,a,dx,C,f3,_,Uf,3,[R8,To,S_],_,rfl,s1 _ _ ho,rfl,T.cl,M3,F3,Uu,B3,_,rfl,_,_,rfl,rfl,⟨zo,zo,zd⟩,_,_,rfl,rfl,a,l,ts,k,me,i,0,2^w-1,?_,hR.same s1,hz,zo,zo,zo,fun H2 r2 b2=>?_⟩
     ·show [V.ref a,V.int 0,V.int (1*2^((w:Int)).toNat-1)]=_;rw[hpw];rfl
     refine⟨N5,fun p np=>?_⟩;have s3:=ag (o:=.tup [.str "number",.int (i:Nat)]) np;exact q _ _ (r2.same s3) (((bO s1).trans b2).same s3) ⟨p,rfl,ae⟩
   ·refine⟨_,rfl,_,_,rfl,rfl,_,rfl,?_⟩;by_cases ht:∃o x y,e=.two o x y
    ·obtain⟨o,x,y,rfl⟩:=ht;have hm:m≠0:=by
      rintro rfl;simp[cO]at hE
     refine bD (b_ zo) ⟨_,rfl,rfl,_,rfl,bD (b_ rfl) ⟨rfl,o,x,y,rfl⟩⟩
    ·have VU:∀o x y,e≠.two o x y:=fun o x y h=>ht ⟨o,x,y,h⟩;refine bW (fun _=>⟨_,rfl,rfl,_,rfl,be (d_ fun h=>yT hE VU (V.str.inj h)) ⟨rfl,VU⟩⟩) (fun _=>bK ⟨rfl,VU⟩)
  ·refine⟨_,rfl,_,_,rfl,rfl,_,rfl,?_⟩;by_cases ht:∃x,e=.cell x
   ·obtain⟨x,rfl⟩:=ht;have hm:m≠0:=by
     rintro rfl;simp[cO]at hE
    refine bD (b_ zo) ⟨_,rfl,rfl,_,rfl,bD (b_ rfl) ⟨rfl,x,rfl⟩⟩
   ·have VU:∀x,e≠.cell x:=fun x h=>ht ⟨x,h⟩;refine bW (fun _=>⟨_,rfl,rfl,_,rfl,be (d_ fun h=>yS hE VU (V.str.inj h)) ⟨rfl,VU⟩⟩) (fun _=>bK ⟨rfl,VU⟩)
end
def dq:TH:=[R9,Sc,"number",S2]
structure tK(K:ZF)(mg:Str->Option Tr)(aS aE aF:Ts)(t1 t2 t3 t4:Tok):Prop where
 sorts:mg "SORTS"=some (.ref aS)
 sortsq:∀H,NY K H aS (al dq)
 ends:mg "ENDS"=some (.ref aE)
 endsq:∀H,NY K H aE (al [SJ,S5,Su,SK,SN,Sk])
 owf:mg "OWN_FAULTS"=some (.ref aF)
 owfq:∀H,NY K H aF (al [Ta,Te])
 mf:mg "MOST_FIELDS"=some (.int 3 t1)
 ms:mg "MOST_SETS"=some (.int 4 t2)
 mc:mg "MOST_CHOICES"=some (.int 3 t3)
 mkn:mg "MOST_KINDS"=some (.int 8 t4)
inductive Oh(H:Hp)(u:V)(x:Str×Str):Prop
 |mk(p:_):u=.ref p->H p=some (.tup [.str x.1,.str x.2])->Oh H u x
inductive pB(C:Ts)(vs:TQ)(H:Hp)(Q:VK)(Z3:XK):Prop
 |mk(a l ts k me:_)(x:Str×Str):vs=[.ref a]->Om C H a l ts k me->(tz ts)[k]?=some x.1->N8 x.1->(tz ts)[k+1]?=some x.2->x.2∈dq->(∀p H',Om C H' a l ts (k+2) me->N4 a H H'->H p=none->H' p=some (.tup [.str x.1,.str x.2])->Q (.ref p) H')->pB C vs H Q Z3
section
def jg(b:N4 a H H')(ho:H' a=some (.ins C dx fs))(n:H' p=none):H p=none:=by
 by_cases h:p=a
 ·subst h;rw[ho]at n;cases n
 ·cases hx:H p with
  |none=>rfl
  |some o=>
   have:=b _ _ hx h;rw[n]at this;cases this
def Qd:av [Sb,"name"] [Sb] (ak iF):=cV zk
def yU(F:Ob K "read_field" "read_field" iF f fd)(T:sy P w K mg base C)(Z:tK K mg aS aE aF t1 t2 t3 t4):NZ P w K mg base bZ 3 f fd [Sb] (pB C):=by
 have ZZ:=Qd
 walk_at "o"
 ·obtain⟨a,l,ts,k,me,x,rfl,hR,h0,hn,h1,hs,q⟩:=h;refine⟨_,af (bL (i:=1) Qd.nd (aN (pv 0))) (aj (aq (ay (aa (pv 1) (aa (bq (pv 0) (aa (bi (v:=.ref aS) rfl Z.sorts rfl) ac)) ac))))),?_⟩;obtain⟨f1,LW,M1,F1,B1⟩:=T.need;obtain⟨f2,Um,M2,F2,B2⟩:=T.nname;obtain⟨dx,ho⟩:=hR.ob;refine⟨_,rfl,a,dx,C,f2,_,Um,2,[R8],_,rfl,ho,rfl,T.cl,M2,F2,hr,B2,a,l,ts,k,me,x.1,rfl,hR,h0,hn,fun H1 r1 b1=>?_⟩;obtain⟨UD,TR⟩:=r1.ob;refine⟨_,rfl,_,rfl,a,UD,C,f1,_,LW,2,[R8,Sz],_,rfl,TR,rfl,T.cl,M1,F1,hr,B1,a,l,ts,k+1,me,x.2,aS,dq,rfl,r1,h1,.inr (Z.sortsq _),hs,fun H2 r2 b2=>?_⟩;obtain⟨UO,TV⟩:=r2.ob;refine⟨N5,fun p np=>?_⟩;have s3:=ag (o:=.tup [.str x.1,.str x.2]) np;exact q p _ (r2.same s3) ((b1.trans b2).same s3) (jg (b1.trans b2) TV np) ae
end
inductive mj(C:Ts)(vs:TQ)(H:Hp)(Q:VK)(Z3:XK):Prop
 |mk(a l ts k me e:_):vs=[.ref a]->Om C H a l ts k me->At ts k (gA e)->pq e->(∀v H',Om C H' a l ts (k+(gA e).length) me->N4 a H H'->QV H' e v->Q v H')->mj C vs H Q Z3
inductive tO(C:Ts)(vs:TQ)(H:Hp)(Q:VK)(Z3:XK):Prop
 |mk(a l ts k me g:_)(w:Nat)(cf:Bool):vs=[.ref a,.int w,.bl cf]->w<=24->(g.isCell=true->cf=true)->Om C H a l ts k me->At ts k (jf g)->jT w g->(∀v H',Om C H' a l ts (k+(jf g).length) me->N4 a H H'->Pk H' g v->Q v H')->tO C vs H Q Z3
inductive pC(C:Ts)(vs:TQ)(H:Hp)(Q:VK)(Z3:XK):Prop
 |mk(a l ts k me s e:_)(w:Nat):vs=[.ref a,.int w]->w<=24->Om C H a l ts k me->At ts k (bQ s++gA e)->eP w 0 (.leaf s e)->(∀v H',Om C H' a l ts (k+(bQ s++gA e).length) me->N4 a H H'->Qp H' (.leaf s e) v->Q v H')->pC C vs H Q Z3
def QV.kt(k:N9 H H')(h:QV H e v):QV H' e v:=let⟨p,a,b⟩:=h;⟨p,a,k _ _ b⟩
def Bf:En->Str
 |.w0 s=>s
 |.w1 s _=>s
def pE(h:pq e):Bf e∈([SJ,S5,Su,SK,SN,Sk]:TH):=by
 cases e with
 |w0 s=>
  have h':s∈([SJ,SK,SN]:TH):=h;simp only[J0,Kc,l_]at h';show s∈_;rcases h' with rfl|rfl|rfl<;>decide +kernel
 |w1 s z=>
  have h':s∈([S5,Su,Sk]:TH):=h.1;simp only[J0,Kc,l_]at h';show s∈_;rcases h' with rfl|rfl|rfl<;>decide +kernel
def yV(h:At ts k (gA e)):(tz ts)[k]?=some (Bf e):=by
 cases e with
 |w0 s=>exact h.hd
 |w1 s z=>exact h.hd
section
def QR:av [Sb,"end"] [Sb] (ak lR):=cV zk
def B5(F:Ob K "read_end" "read_end" lR f fd)(T:sy P w K mg base C)(Z:tK K mg aS aE aF t1 t2 t3 t4):NZ P w K mg base bZ 3 f fd [Sb] (mj C):=by
 have ZZ:=QR
 walk_at "o"
 ·obtain⟨a,l,ts,k,me,e,rfl,hR,hA,hE,q⟩:=h;refine⟨_,af (bL (i:=1) QR.nd (bq (pv 0) (aa (bi (v:=.ref aE) rfl Z.ends rfl) ac)))
   (af (aQ (c9 (fun _ _=>False) (fun _ H'=>Om C H' a l ts (k+1) me/\N4 a H H') (PW.pt (bY (ap aW (pv 1) ai) (bM (ap eI (aN (pv 0)) (bi (v:=.ref aF) rfl Z.owf rfl) rfl))))) (aj da) aB)
   (af (aQ (ap eI (pv 1) (ay (aa ai (aa ai (aa ai ac)))) rfl) (aj (aq (ay (aa (pv 1) (aa (aN (pv 0)) ac))))) aB)
   (aj (aq (ay (aa (pv 1) ac)))))),?_⟩
  obtain⟨f1,LW,M1,F1,B1⟩:=T.need;obtain⟨f2,Um,M2,F2,B2⟩:=T.nname;obtain⟨f3,Uf,M3,F3,B3⟩:=T.look;obtain⟨dx,ho⟩:=hR.ob;refine⟨_,rfl,a,dx,C,f1,_,LW,2,[R8,Sz],_,rfl,ho,rfl,T.cl,M1,F1,hr,B1,a,l,ts,k,me,Bf e,aE,[SJ,S5,Su,SK,SN,Sk],rfl,hR,yV hA,.inr (Z.endsq _),pE hE,fun H1 r1 b1=>?_⟩;refine⟨fun _ z=>z.elim,?_,?_⟩
  ·rintro H2 ⟨r2,b2⟩;obtain⟨UO,TV⟩:=r2.ob;refine⟨_,rfl,N5,fun t3' n3=>?_⟩;have s3:=ag (o:=.tup [.str S5,.str Su,.str Sk]) n3;have e3:ky (.str (Bf e)) [.str S5,.str Su,.str Sk]=([S5,Su,Sk]:TH).contains (Bf e):=dR _ [S5,Su,Sk];refine⟨t3',_,rfl,.inr (NY.of ae),rfl,rfl,_,rfl,bW (fun h=>?_) (fun h=>?_)⟩
   ·have h':([S5,Su,Sk]:TH).contains (Bf e)=true:=by rw[<-e3];exact h
    cases e with
    |w0 s=>
     exfalso;have h1:s∈([SJ,SK,SN]:TH):=hE;have h2:s∈([S5,Su,Sk]:TH):=KM.mp h';simp only[J0,Kc,l_]at h1;rcases h1 with rfl|rfl|rfl<;>revert h2<;>decide +kernel
    |w1 s z=>
     have TZ:At ts k [s,z]:=hA;refine⟨_,rfl,_,rfl,a,UO,C,f2,_,Um,2,[R8],_,rfl,s3 _ _ TV,rfl,T.cl,M2,F2,hr,B2,a,l,ts,k+1,me,z,rfl,r2.same s3,TZ.tl.hd,hE.2.1,fun H4 r4 b4=>?_⟩;refine⟨N5,fun p np=>?_⟩;have s5:=ag (o:=.tup [.str s,.str z]) np;exact q _ _ (r4.same s5) (((b2.same s3).trans b4).same s5) ⟨p,rfl,ae⟩
   ·have h':([S5,Su,Sk]:TH).contains (Bf e)=false:=by rw[<-e3];exact Lo.mpr h
    cases e with
    |w1 s z=>
     exfalso;have UT:([S5,Su,Sk]:TH).contains s=false:=h';rw[KM.mpr hE.1]at UT;cases UT
    |w0 s=>
     refine⟨_,rfl,N5,fun p np=>?_⟩;have s5:=ag (o:=.tup [.str s]) np;exact q _ _ ((r2.same s3).same s5) ((b2.same s3).same s5) ⟨p,rfl,ae⟩
  ·obtain⟨UD,TR⟩:=r1.ob;refine⟨_,rfl,rfl,_,rfl,bW (fun h=>?_) (fun h=>bK ⟨r1,b1⟩)⟩;have hf:Bf e=Sk:=V.str.inj (k_ h);cases e with
   |w0 s=>
    exfalso;have h1:s∈([SJ,SK,SN]:TH):=hE;have h2:s=Sk:=hf;rw[h2]at h1;revert h1;decide +kernel
   |w1 s z=>
    have TZ:At ts k [s,z]:=hA;have hs:s=Sk:=hf;have hz:=hE.2.2 hs;have e3:ky (.str z) (al [Ta,Te])=([Ta,Te]:TH).contains z:=dR _ _;refine⟨_,rfl,a,UD,C,f3,_,Uf,1,[R8],_,rfl,TR,rfl,T.cl,M3,F3,hr.m,B3,a,l,ts,k+1,me,z,rfl,r1,TZ.tl.hd,aF,_,rfl,.inr (Z.owfq _),rfl,dm _,_,rfl,be ?_ ⟨r1,b1⟩⟩;show ky (.str z) (al [Ta,Te])=false;rw[e3];exact Lo.mpr fun h=>hz (KM.mp h)
def vA:Gs->TH
 |.cell a _=>("[":Str)::(cU a++[("]":Str)])
 |.nm z _=>[z]
def tQ:Gs->Ex
 |.cell _ e=>e
 |.nm _ e=>e
def tR(g:Gs):jf g=vA g++("=":Str)::(cU (tQ g)++[(";":Str)]):=by
 cases g with
 |cell a e=>
  show("[":Str)::(cU a++("]":Str)::("=":Str)::(cU e++[(";":Str)]))=(("[":Str)::(cU a++[("]":Str)]))++_;simp[tQ]
 |nm z e=>rfl
def HdV(H:Hp)(g:Gs)(u:V):Prop:=match g with
 |.cell a _=>Pq H a u
 |.nm z _=>u=.str z
def HdV.kt(k:N9 H H')(h:HdV H g u):HdV H' g u:=by
 cases g with
 |cell a e=>exact Pq.kt k h
 |nm z e=>exact h
def wR:Gs->Str
 |.cell _ _=>"cell"
 |.nm _ _=>"name"
def GV(h:jT w g):cO w 3 (tQ g):=by
 cases g with
 |cell a e=>exact h.2
 |nm z e=>exact h.2
def OX:av [Sb,R_,S6,Tl,Tf,SA] [Sb,R_,S6] (ak lQ):=cV zk
inductive yW(a:Ts)(w:Nat)(g:Gs)(C:Ts)(l:Ts)(ts:TH)(k:Nat)(me:Bool)(H:Hp)(σ:St)(H':Hp):Prop
 |mk(ug:_):σ=[some (.ref a),some (.int (w:Nat)),some (.bl cf),some (.str (wR g)),some ug,none]->Om C H' a l ts (k+(vA g).length) me->N4 a H H'->HdV H' g ug->yW a w g C l ts k me H σ H'
def B6(F:Ob K "read_set" "read_set" lQ f fd)(T:sy P w K mg base C)(EX:Fn P w K mg base "read_expression" n [Sb,R_,Sy] (md C 3))(hn:3<=n):NZ P w K mg base bZ (n+1) f fd [Sb,R_,S6] (tO C):=by
 have ZZ:=OX
 walk_at "o"
 ·obtain⟨a,l,ts,k,me,g,w,cf,rfl,hw,hcf,hR,hA,hG,q⟩:=h;have LU:N1 1 _:=hr.mono zo;have LV:N1 2 _:=hr.mono zo;refine⟨_,bf (yW a w g C l ts k me H) (aQ (c9 (fun _ H'=>H'=H/\g.isCell=true) (fun _ H'=>H'=H/\g.isCell=false) (PW.pt (bY (bU (pv 2)) (bM (ap aW (aN (pv 0)) ai)))))
     (af (aM (aN (pv 0))) (af (bL (i:=3) OX.nd ai) (af (bL (i:=4) OX.nd (ar EX hr rfl (aa (pv 0) (aa (pv 1) (aa ah ac))))) (aj (aM (bq (pv 0) (aa (ay (aa ai ac)) ac)))))))
     (af (bL (i:=3) OX.nd ai) (aj (bL (i:=4) OX.nd (aN (pv 0))))))
   (af (aM (bq (pv 0) (aa (ay (aa ai ac)) ac)))
   (af (bL (i:=5) OX.nd (ar EX hr rfl (aa (pv 0) (aa (pv 1) (aa ah ac)))))
   (af (aM (bq (pv 0) (aa (ay (aa ai ac)) ac)))
   (aj (aq (ay (aa (pv 3) (aa (pv 4) (aa (pv 5) ac))))))))),?_⟩
  obtain⟨f1,LW,M1,F1,B1⟩:=T.need;obtain⟨f2,Um,M2,F2,B2⟩:=T.nname;obtain⟨f3,Uf,M3,F3,B3⟩:=T.look;obtain⟨f4,W7,M4,F4,B4⟩:=T.take;rw[tR]at hA;have U5:=hA.r;obtain⟨dx,ho⟩:=hR.ob;refine⟨?_,?_,?_,?_⟩
  ·rintro σ H1 ⟨ug,rfl,r1,b1,v1⟩;obtain⟨UD,TR⟩:=r1.ob;refine⟨_,rfl,a,UD,C,f1,_,LW,2,[R8,Sz],_,rfl,TR,rfl,T.cl,M1,F1,LV,B1,N5,fun p2 n2=>?_⟩;have s2:=ag (o:=.tup [.str "="]) n2;refine⟨a,l,ts,k+(vA g).length,me,"=",p2,["="],rfl,r1.same s2,U5.hd,.inr (NY.of ae),JW,fun H3 r3 b3=>?_⟩;have b13:N4 a H1 H3:=(bO s2).trans b3;have v3:=v1.kt (b13.kt TR);obtain⟨Vr,Ux⟩:=r3.ob;refine⟨_,rfl,_,rfl,a,l,ts,k+(vA g).length+1,me,tQ g,w,0,rfl,rfl,hw,r3,U5.tl.l,GV hG,fun t H4 r4 b4 v4=>?_⟩;have v4':=v3.kt (b4.kt Ux);obtain⟨Va,Uv⟩:=r4.ob;refine⟨_,rfl,a,Va,C,f1,_,LW,2,[R8,Sz],_,rfl,Uv,rfl,T.cl,M1,F1,LV,B1,N5,fun p5 n5=>?_⟩;have s5:=ag (o:=.tup [.str ";"]) n5;refine⟨a,l,ts,k+(vA g).length+1+(cU (tQ g)).length,me,";",p5,[";"],rfl,r4.same s5,U5.tl.r.hd,.inr (NY.of ae),JW,fun H6 r6 b6=>?_⟩;have V7:N4 a H4 H6:=(bO s5).trans b6;refine⟨_,rfl,_,rfl,_,rfl,N5,fun p np=>?_⟩;have s7:=ag (o:=.tup [.str (wR g),ug,t]) np;have Yd:N9 H4 (aI H6 p (.tup [.str (wR g),ug,t])):=(V7.kt Uv).trans (ao s7);have LS:k+(jf g).length=k+(vA g).length+1+(cU (tQ g)).length+1:=by
    rw[tR];simp;lia
   refine q _ _ (by rw[LS];exact r6.same s7) ((((b1.trans b13).trans b4).trans V7).same s7) ?_;have vE:=Pq.kt Yd v4;have vH:=v4'.kt Yd;cases g with
   |cell a' e'=>exact⟨p,ug,t,rfl,ae,vH,vE⟩
   |nm z e'=>
    have:ug=.str z:=v1;subst this;exact⟨p,t,rfl,ae,vE⟩
  ·rintro H1 ⟨rfl,hc⟩;cases g with
   |nm z e=>cases hc
   |cell a' e=>
    have TZ:At ts k (("[":Str)::(cU a'++[("]":Str)])):=hA.l;refine⟨_,rfl,a,dx,C,f4,_,W7,1,[R8],_,rfl,ho,rfl,T.cl,M4,F4,LU,B4,a,l,ts,k,me,"[",rfl,hR,TZ.hd,fun H2 r2 b2=>?_⟩;refine⟨_,rfl,_,rfl,a,l,ts,k+1,me,a',w,0,rfl,rfl,hw,r2,TZ.tl.l,hG.1,fun u H3 r3 b3 v3=>?_⟩;obtain⟨Vr,Ux⟩:=r3.ob;refine⟨_,rfl,a,Vr,C,f1,_,LW,2,[R8,Sz],_,rfl,Ux,rfl,T.cl,M1,F1,LV,B1,N5,fun p5 n5=>?_⟩;have s5:=ag (o:=.tup [.str "]"]) n5;refine⟨a,l,ts,k+1+(cU a').length,me,"]",p5,["]"],rfl,r3.same s5,TZ.tl.r.hd,.inr (NY.of ae),JW,fun H6 r6 b6=>?_⟩;have b36:N4 a H3 H6:=(bO s5).trans b6;have LS:k+(vA (.cell a' e)).length=k+1+(cU a').length+1:=by
     show k+(("[":Str)::(cU a'++[("]":Str)])).length=_;simp;lia
    exact⟨u,rfl,by rw[LS];exact r6,(b2.trans b3).trans b36,Pq.kt (b36.kt Ux) v3⟩
  ·rintro H1 ⟨rfl,hc⟩;cases g with
   |cell a' e=>cases hc
   |nm z e=>
    have TZ:At ts k [z]:=hA.l;refine⟨_,rfl,a,dx,C,f2,_,Um,2,[R8],_,rfl,ho,rfl,T.cl,M2,F2,LV,B2,a,l,ts,k,me,z,rfl,hR,TZ.hd,hG.1,fun H2 r2 b2=>?_⟩;exact⟨_,rfl,r2,b2,rfl⟩
  ·refine⟨_,rfl,cf,rfl,?_⟩;cases g with
   |cell a' e=>
    have TZ:At ts k (("[":Str)::(cU a'++[("]":Str)])):=hA.l;rw[hcf rfl];refine im ⟨_,rfl,a,dx,C,f3,_,Uf,1,[R8],_,rfl,ho,rfl,T.cl,M3,F3,LU,B3,a,l,ts,k,me,"[",rfl,hR,TZ.hd,rfl,_,rfl,bD (b_ rfl) ⟨rfl,rfl⟩⟩
   |nm z e=>
    have TZ:At ts k [z]:=hA.l;refine bW (fun _=>?_) (fun _=>bK ⟨rfl,rfl⟩);refine⟨_,rfl,a,dx,C,f3,_,Uf,1,[R8],_,rfl,ho,rfl,T.cl,M3,F3,LU,B3,a,l,ts,k,me,z,rfl,hR,TZ.hd,rfl,_,rfl,be (d_ fun h=>?_) ⟨rfl,rfl⟩⟩;have h':=V.str.inj h;rw[EF]at h';exact pz hG.1 (by simp) h'
end
def kH{X:Cx}{K:ZF}(h:X.K=K):GB X (D8 K):=by subst h;exact aJ
def bu{α:Type}{x:α}{r:List α}:qJ (x::r) 0=some x:=aU (j:=0) (xs:=x::r) rfl
def cI{α:Type}{x y:α}{r:List α}:qJ (x::y::r) 1=some y:=aU (j:=1) (xs:=x::y::r) rfl
def jU{α:Type}{x y z:α}{r:List α}:qJ (x::y::z::r) 2=some z:=aU (j:=2) (xs:=x::y::z::r) rfl
def GW{α:Type}{x y z u:α}{r:List α}:qJ (x::y::z::u::r) 3=some u:=aU (j:=3) (xs:=x::y::z::u::r) rfl
def gO{α β:Type}{R:α->β->Prop}{x:α}{y:β}(h:R x y):∀{xs:List α}{ys:List β},Paired R xs ys->Paired R (xs++[x]) (ys++[y])
 |_,_,.nil=>.cons h .nil
 |_,_,.cons a b=>.cons a (gO h b)
def bF{α β:Type}{R R':α->β->Prop}(f:∀x y,R x y->R' x y):∀{xs:List α}{ys:List β},Paired R xs ys->Paired R' xs ys
 |_,_,.nil=>.nil
 |_,_,.cons a b=>.cons (f _ _ a) (bF f b)
def gq{α β:Type}{R:α->β->Prop}:∀{xs:List α}{ys:List β},Paired R xs ys->∀{i:Nat}{x:α},xs[i]?=some x->∃y,ys[i]?=some y/\R x y
 |_,_,.cons h t,0,x,e=>by
  simp at e;exact⟨_,rfl,e▸h⟩
 |_,_,.cons h t,i+1,x,e=>by
  obtain⟨y,a,b⟩:=gq t (i:=i) (x:=x) (by simpa using e);exact⟨y,by simpa using a,b⟩
section
variable{H:Hp}
def vB{l:Ts}{xs ys:TQ}(e:H l=some (.lst xs)):N9 H (aI H l (.lst ys)):=Ei e
def Qp.kt{H H':Hp}(k:N9 H H'):∀{b:Bd}{v:V},Qp H b v->Qp H' b v
 |.leaf _ _,_,⟨p,q,us,u,a,b,c,d,e⟩=>⟨p,q,us,u,a,k _ _ b,k _ _ c,bF (fun _ _ h=>Pk.kt k h) d,e.kt k⟩
 |.ite _ _ _ _,_,⟨p,u,x,y,a,b,⟨t,c,c'⟩,d,e⟩=>⟨p,u,x,y,a,k _ _ b,⟨t,c,k _ _ c'⟩,Qp.kt k d,Qp.kt k e⟩
def du(t:Bool)(z:Str):TH:=if t then [S3,z]else [z]
def B7:Bd->TH
 |.leaf s e=>bQ s++gA e
 |.ite t z y n=>(Tn:Str)::(du t z++(db y++(S9:Str)::db n))
def yX(b:Bd):db b=("{":Str)::(B7 b++[("}":Str)]):=by
 cases b with
 |leaf s e=>simp[db,B7]
 |ite t z y n=>simp[db,B7,du]
inductive pF(C:Ts)(vs:TQ)(H:Hp)(Q:VK)(Z3:XK):Prop
 |mk(a l ts k me t z:_):vs=[.ref a]->Om C H a l ts k me->At ts k (du t z)->N8 z->(∀v H',Om C H' a l ts (k+(du t z).length) me->N4 a H H'->Pe H' t z v->Q v H')->pF C vs H Q Z3
inductive kI(C:Ts)(m:Nat)(vs:TQ)(H:Hp)(Q:VK)(Z3:XK):Prop
 |mk(a l ts k me b:_)(w c:Nat):vs=[.ref a,.int w,.int c]->c+m=3->w<=24->Om C H a l ts k me->At ts k (db b)->eP w m b->(∀v H',Om C H' a l ts (k+(db b).length) me->N4 a H H'->Qp H' b v->Q v H')->kI C m vs H Q Z3
inductive ml(C:Ts)(m:Nat)(vs:TQ)(H:Hp)(Q:VK):Prop
 |mk(a l ts k me t z y n:_)(w c:Nat):vs=[.ref a,.int w,.int c]->c+m=3->w<=24->Om C H a l ts k me->At ts k (B7 (.ite t z y n))->N8 z->eP w m y->eP w m n->(∀v H',Om C H' a l ts (k+(B7 (.ite t z y n)).length) me->N4 a H H'->Qp H' (.ite t z y n) v->Q v H')->ml C m vs H Q
def jV(C:Ts):Nat->Sp
 |0=>nj
 |m+1=>fun vs H Q _=>ml C m vs H Q
def jW:∀a b:List Gs,bQ (a++b)=bQ a++bQ b
 |[],_=>rfl
 |g::r,b=>by
  show("set":Str)::(jf g++bQ (r++b))=(("set":Str)::(jf g++bQ r))++bQ b;rw[jW r b];simp
variable{v:V}
def Pk.at{g:Gs}(h:Pk H g v):∃p r,v=.ref p/\H p=some (.tup (.str (wR g)::r)):=by
 cases g with
 |cell a e=>obtain⟨p,u,t,a,b,_⟩:=h;exact⟨p,_,a,b⟩
 |nm z e=>obtain⟨p,t,a,b,_⟩:=h;exact⟨p,_,a,b⟩
def yY(g:Gs):(!decide (V.str (wR g)=V.str "cell"))=!g.isCell:=by
 cases g with
 |cell a e=>rw[b_ (show V.str (wR (.cell a e))=V.str "cell" from rfl)];rfl
 |nm z e=>rw[d_ (fun h=>absurd (V.str.inj h) (by show("name":Str)≠"cell";decide +kernel))];rfl
variable{e:En}
def wS(h:pq e):Bf e≠"set":=by
 have:=pE h;intro hs;rw[hs]at this;revert this;decide +kernel
variable{P:Tv}{w:Tw}{K:ZF}{mg:Str->Option Tr}{base:Heap}{C fi aS aE aF aO:Ts}{t1 t2 t3 t4 t5 tM:Tok}
def PX:av [Sb,R_,"sets",S6] [Sb,R_] (ak gY):=cV zk
def B8:([Tf]:TH).Nodup:=by decide +kernel
variable{n:Nat}{fd:TB}{f:Ts}
def yZ(F:Ob K "read_leaf" "read_leaf" gY f fd)(T:sy P w K mg base C)(Z:tK K mg aS aE aF t1 t2 t3 t4)(B:Bl mg)(SR:Fn P w K mg base "read_set" n [Sb,R_,S6] (tO C))(EN:Fn P w K mg base "read_end" 3 [Sb] (mj C))(hn:3<=n):NZ P w K mg base bZ (n+1) f fd [Sb,R_] (pC C):=by
 have ZZ:=PX
 walk_at "o"
 ·obtain⟨a,l,ts,k,me,s,e,w,rfl,hw,hR,hA,⟨h4,hG,hU,hE⟩,q⟩:=h;have LU:N1 1 _:=hr.mono zo;have Uu:N1 3 _:=hr.mono zo;walk_at "w"
  refine⟨_,af (bL (i:=2) PX.nd (aT ac))
   (af (fz h_ (PW.pt (bY (ap dY (aC aY (by rfl) B.len Kt (aa (pv 2) ac)) (bi (v:=.int 4) rfl Z.ms ⟨_,rfl⟩)) (bM (ap aW (aN (pv 0)) ai))))
    (af (aM (aN (pv 0)))
    (af (bL (i:=3) PX.nd (aC (gF rfl) (by rfl) B.all fH (aa (dQ (N':=[Tf]) (ix:=[none]) (sc0:=ak gY) (N:=[Sb,R_,"sets",S6]) rfl zk (de (pv 2)) (fun C' cl s H fp=>cG (i:=0) B8) (fun _ _ _ _ _=>dM) (fun C' cl s H fp=>cq qD (ax (kH (K:=K) rfl) (pv 0) ah) ai (sF _))) ac)))
    (aj (aM (cu Kp Kk Kj bz (pv 2) (aa (ar SR hr rfl (aa (pv 0) (aa (pv 1) (aa (pv 3) ac)))) ac)))))))
   (aj (aq (ay (aa ai (aa (aV bh (by rfl) B.tuple br (aa (pv 2) ac)) (aa (ar EN Uu rfl (aa (pv 0) ac)) ac))))))),?_⟩
  obtain⟨f3,Uf,M3,F3,B3⟩:=T.look;obtain⟨f4,W7,M4,F4,B4⟩:=T.take;obtain⟨dx,ho⟩:=hR.ob;refine⟨N5,fun ln nn=>?_⟩;generalize zz:aI H ln _=H1;have⟨s1,e1⟩:=nw nn zz;clear zz;have Wj:ln≠a:=fun z=>by rw[z,ho]at nn;cases nn
  have lnl:l≠ln:=az hR.tk nn;refine⟨fun m σ H'=>∃(i:Nat)(v3:Option V)(us:TQ),i<=s.length/\m=s.length-i/\σ=[some (.ref a),some (.int (w:Nat)),some (.ref ln),v3]/\Om C H' a l ts (k+(bQ (s.take i)).length) me/\N4 a H H'/\H' ln=some (.lst us)/\us.length=i/\Paired (fun v g=>Pk H' g v) us (s.take i),⟨_,0,none,[],KO _,rfl,rfl,hR.same s1,bO s1,e1,rfl,.nil⟩,?_⟩;rintro m σ H2 ⟨i,v3,us,hi,rfl,rfl,r2,b2,e2,lu,L9⟩;obtain⟨UO,TV⟩:=r2.ob;refine⟨_,rfl,ln,_,rfl,.inl (N0.of e2),_,_,rfl,rfl,_,rfl,?_⟩;by_cases Md:i<s.length
  ·have hg:s[i]?=some s[i]:=J1 Md;generalize hgg:s[i]=g at*;have hgm:g∈s:=Kg hg;have VZ:s.take (i+1)=s.take i++[g]:=by rw[KE,hg];rfl
   have esp:bQ s=bQ (s.take i)++(("set":Str)::(jf g++bQ (s.drop (i+1)))):=by
    have:s=s.take i++(g::s.drop (i+1)):=by
     have h':=(KZ i s).symm;rw[KP Md,hgg]at h';exact h'
    conv=>lhs;rw[this,jW]
    rfl
   have hAs:At ts (k+(bQ (s.take i)).length) (("set":Str)::(jf g++bQ (s.drop (i+1)))):=by
    have:=hA.l;rw[esp]at this;exact this.r
   refine bD (b_ (by rw[lu];lia)) ?_;refine⟨_,rfl,a,UO,C,f3,_,Uf,1,[R8],_,rfl,TV,rfl,T.cl,M3,F3,LU,B3,a,l,ts,_,me,"set",rfl,r2,hAs.hd,rfl,_,rfl,bD (b_ rfl) ?_⟩;refine⟨fun σ' H'=>∃(v3:Option V)(us:TQ),σ'=[some (.ref a),some (.int (w:Nat)),some (.ref ln),v3]/\Om C H' a l ts (k+(bQ (s.take (i+1))).length) me/\N4 a H H'/\H' ln=some (.lst us)/\us.length=i+1/\Paired (fun v g=>Pk H' g v) us (s.take (i+1)),fun σ' H'⟨v3,us,a1,a2,a3,a4,a5,a6⟩=>⟨s.length-(i+1),zo,i+1,v3,us,Md,rfl,a1,a2,a3,a4,a5,a6⟩,?_⟩;refine⟨_,rfl,a,UO,C,f4,_,W7,1,[R8],_,rfl,TV,rfl,T.cl,M4,F4,LU,B4,a,l,ts,_,me,"set",rfl,r2,hAs.hd,fun H3 r3 b3=>?_⟩;have k23:=b3.kt TV;have e3:=b3 _ _ e2 Wj;have ZA:=bF (fun _ _ h=>Pk.kt k23 h) L9;refine⟨_,rfl,ln,rfl,⟨_,N0.of e3⟩,?_⟩;refine eu (K:=K) (a:=ln) (xs:=us) (fun j ys H'=>H'=H3/\ys=(((s.take i).take j).map fun g=>!g.isCell).map V.bl) ⟨rfl,rfl⟩ (fun j ys H' hj⟨a1,a2⟩=>by
     subst a1 a2;refine⟨N0.of e3,?_⟩;rw[JY,JY,J9,J9];lia) ?_ ?_
   ·rintro j u ys H' hu ⟨rfl,rfl⟩;obtain⟨y,hy,hv⟩:=gq ZA hu;obtain⟨p,r,rfl,hp⟩:=hv.at;refine⟨trivial,dN ?_⟩;refine⟨_,rfl,p,_,_,_,rfl,rfl,NY.of hp,bu,rfl,?_⟩;rw[yY];refine Nx.mk (JV.mp hu).1 ⟨rfl,?_⟩;rw[KE (l:=s.take i),hy,Kb,Kb];rfl
   rintro ys H' ⟨rfl,rfl⟩ lq Xm;have eta:(s.take i).take us.length=s.take i:=K6 (by rw[J9];lia);rw[eta];have s4:=ag (o:=.lst (((s.take i).map fun g=>!g.isCell).map V.bl)) Xm;refine⟨lq,_,rfl,N0.of ae,?_⟩;have e4:=s4 _ _ e3;have r4:=r3.same s4;have hus4:=bF (fun _ _ h=>Pk.kt (ao s4) h) ZA;generalize aI H' lq (.lst (((s.take i).map fun g=>!g.isCell).map V.bl))=H4 at*;have hcf:g.isCell=true->((s.take i).map fun g=>!g.isCell).all id=true:=by
    intro hc;rw[RK,KC];intro x hx;obtain⟨jj,hj⟩:=List.getElem?_of_mem hx;have WY:jj<(s.take i).length:=(JV.mp hj).1;rw[J9]at WY;rw[R4 zo]at hj;show(!x.isCell)=true;cases hxc:x.isCell with
    |false=>rfl
    |true=>
     have:=hU jj i x g hj hg hxc hc;lia
   have Wp:N4 a H2 H4:=b3.same s4;refine⟨_,rfl,.inl ⟨rfl,_,N0.of e4⟩,_,rfl,_,rfl,_,rfl,a,l,ts,k+(bQ (s.take i)).length+1,me,g,w,_,rfl,hw,hcf,r4,hAs.tl.l,hG g hgm,fun v5 H5 r5 b5 v5'=>?_⟩;obtain⟨Va,Uv⟩:=r4.ob;have e5:=b5 _ _ e4 Wj;have k45:=b5.kt Uv;refine⟨ln,us,_,rfl,rfl,e5,zo,?_⟩;have k6:=vB (ys:=us++[v5]) e5;obtain⟨VO,UM⟩:=r5.ob;have LS:k+(bQ (s.take (i+1))).length=k+(bQ (s.take i)).length+1+(jf g).length:=by
    rw[VZ,jW];show k+(bQ (s.take i)++(("set":Str)::(jf g++[]))).length=_;simp;lia
   refine⟨_,us++[v5],rfl,?_,?_,ae,by simp[lu],?_⟩
   ·rw[LS];refine⟨⟨VO,by rw[am (K_ Wj)];exact UM⟩,by rw[am lnl];exact r5.tk,r5.le⟩
   ·intro b o eb nb;rw[am (az eb nn)];exact b5 _ _ (Wp _ _ (b2 _ _ eb nb) nb) nb
   ·rw[VZ];exact gO (R:=fun v g=>Pk (aI H5 ln (.lst (us++[v5]))) g v) (Pk.kt k6 v5') (bF (R:=fun v g=>Pk H4 g v) (fun _ _ h=>Pk.kt k6 (Pk.kt k45 h)) hus4)
  ·have Yl:i=s.length:=by lia
   subst Yl;rw[Ky]at L9 r2;have Yq:At ts (k+(bQ s).length) (gA e):=hA.r;have F':mj C [.ref a] H2 (fun YB H3=>Q YB H3) E0->True:=fun _=>trivial;have cont:∀H3,H3=H2->(∃p ys,[V.ref ln]=[.ref p]/\((N0 K H3 p ys/\∀t,H3 t=none->mj C [.ref a] (aI H3 t (.tup ys)) (fun v4 H4=>3<=sizeLine/\∀p,H4 p=none->Q (.ref p) (aI H4 p (.tup [.str "leaf",.ref t,v4]))) E0)\/(NY K H3 p ys/\False))):=by
    rintro H3 rfl;refine⟨ln,us,rfl,.inl ⟨N0.of e2,fun t nt=>?_⟩⟩;generalize zz:aI H3 t _=H4;have s3:=(nw nt zz).1;have e3:H4 t=some (.tup us):=(nw nt zz).2;clear zz;have Ux:=s3 _ _ TV;refine⟨a,l,ts,_,me,e,rfl,r2.same s3,Yq,hE,fun v5 H5 r5 b5 v5'=>⟨N5,fun p np=>?_⟩⟩;have s6:=ag (o:=.tup [.str "leaf",.ref t,v5]) np;have k45:=b5.kt Ux;have LS:k+(bQ s++gA e).length=k+(bQ s).length+(gA e).length:=by
     rw[JU];lia
    refine q _ _ (by rw[LS];exact r5.same s6) (((b2.same s3).trans b5).same s6) ⟨p,t,us,v5,rfl,ae,s6 _ _ (k45 _ _ e3),bF (fun _ _ h=>Pk.kt (ao s6) (Pk.kt k45 (Pk.kt (ao s3) h))) L9,v5'.kt (ao s6)⟩
   refine bW (fun _=>?_) (fun _=>bK ?_)
   ·refine⟨_,rfl,a,UO,C,f3,_,Uf,1,[R8],_,rfl,TV,rfl,T.cl,M3,F3,LU,B3,a,l,ts,_,me,Bf e,rfl,r2,yV Yq,rfl,_,rfl,be (d_ fun h=>wS hE (V.str.inj h)) ?_⟩;obtain⟨p,ys,h1,h2⟩:=cont H2 rfl;rcases h2 with⟨h2,h3⟩|⟨_,h3⟩
    ·exact⟨_,rfl,p,ys,h1,.inl ⟨h2,fun t nt=>⟨_,rfl,h3 t nt⟩⟩⟩
    ·exact h3.elim
   ·obtain⟨p,ys,h1,h2⟩:=cont H2 rfl;rcases h2 with⟨h2,h3⟩|⟨_,h3⟩
    ·exact⟨_,rfl,p,ys,h1,.inl ⟨h2,fun t nt=>⟨_,rfl,h3 t nt⟩⟩⟩
    ·exact h3.elim
def B9:av [Sb] [Sb] (ak jL):=cV zk
def y0(F:Ob K "read_test" "read_test" jL f fd)(T:sy P w K mg base C):NZ P w K mg base bZ 3 f fd [Sb] (pF C):=by
 have ZZ:=B9
 walk_at "o"
 ·obtain⟨a,l,ts,k,me,t,z,rfl,hR,hA,hN,q⟩:=h;refine⟨_,af (aQ (ap aW (aN (pv 0)) ai) (aj (aq (ay (aa (aN (pv 0)) (aa (aN (pv 0)) ac))))) aB)
   (aj (aq (ay (aa ai (aa (aN (pv 0)) ac))))),?_⟩
  obtain⟨f2,Um,M2,F2,B2⟩:=T.nname;obtain⟨f3,Uf,M3,F3,B3⟩:=T.look;obtain⟨f4,W7,M4,F4,B4⟩:=T.take;obtain⟨dx,ho⟩:=hR.ob;cases t with
  |true=>
   have TZ:At ts k [(S3:Str),z]:=hA;refine⟨_,rfl,a,dx,C,f3,_,Uf,1,[R8],_,rfl,ho,rfl,T.cl,M3,F3,hr.m,B3,a,l,ts,k,me,S3,rfl,hR,TZ.hd,rfl,_,rfl,bD (b_ rfl) ?_⟩;refine⟨_,rfl,a,dx,C,f4,_,W7,1,[R8],_,rfl,ho,rfl,T.cl,M4,F4,hr.m,B4,a,l,ts,k,me,S3,rfl,hR,TZ.hd,fun H1 r1 b1=>?_⟩;obtain⟨UD,TR⟩:=r1.ob;refine⟨_,rfl,a,UD,C,f2,_,Um,2,[R8],_,rfl,TR,rfl,T.cl,M2,F2,hr,B2,a,l,ts,k+1,me,z,rfl,r1,TZ.tl.hd,hN,fun H2 r2 b2=>⟨N5,fun p np=>?_⟩⟩;have s3:=ag (o:=.tup [.str S3,.str z]) np;exact q _ _ (r2.same s3) ((b1.trans b2).same s3) ⟨p,rfl,ae⟩
  |false=>
   have TZ:At ts k [z]:=hA;have Ma:z≠S3:=fun e=>by
    have:=hN.1;rw[e]at this;exact this zk
   refine⟨_,rfl,a,dx,C,f3,_,Uf,1,[R8],_,rfl,ho,rfl,T.cl,M3,F3,hr.m,B3,a,l,ts,k,me,z,rfl,hR,TZ.hd,rfl,_,rfl,be (d_ fun h=>Ma (V.str.inj h)) ?_⟩;refine⟨_,rfl,a,dx,C,f2,_,Um,2,[R8],_,rfl,ho,rfl,T.cl,M2,F2,hr,B2,a,l,ts,k,me,z,rfl,hR,TZ.hd,hN,fun H2 r2 b2=>⟨N5,fun p np=>?_⟩⟩;have s3:=ag (o:=.tup [.str Tn,.str z]) np;exact q _ _ (r2.same s3) (b2.same s3) ⟨p,rfl,ae⟩
def OY:av [Sb,R_,SV,"test","yes"] [Sb,R_,SV] (ak gJ):=cV zk
def Pe.kt{H H':Hp}(k:N9 H H'){t:Bool}{z:Str}(h:Pe H t z v):Pe H' t z v:=let⟨p,a,b⟩:=h;⟨p,a,k _ _ b⟩
variable{m:Nat}
def iN(F:Ob K "read_choice" "read_choice" gJ f fd)(T:sy P w K mg base C)(TE':Fn P w K mg base "read_test" 3 [Sb] (pF C))(BD:Fn P w K mg base "read_body" n [Sb,R_,SV] (kI C m))(hn:3<=n):NZ P w K mg base bZ (n+1) f fd [Sb,R_,SV] (jV C (m+1)):=by
 have ZZ:=OY
 walk_at "o"
 ·obtain⟨a,l,ts,k,me,t,z,y,n',w,c,rfl,hc,hw,hR,hA,hN,hY,hM,q⟩:=h;have LV:N1 2 _:=hr.mono zo;have Uu:N1 3 _:=hr.mono zo;refine⟨_,af (aM (bq (pv 0) (aa (ay (aa ai ac)) ac)))
   (af (bL (i:=3) OY.nd (ar TE' Uu rfl (aa (pv 0) ac)))
   (af (bL (i:=4) OY.nd (ar BD hr rfl (aa (pv 0) (aa (pv 1) (aa (pv 2) ac)))))
   (af (aM (bq (pv 0) (aa (ay (aa ai ac)) ac)))
   (aj (aq (ay (aa ai (aa (pv 3) (aa (pv 4) (aa (ar BD hr rfl (aa (pv 0) (aa (pv 1) (aa (pv 2) ac)))) ac)))))))))),?_⟩
  obtain⟨f1,LW,M1,F1,B1⟩:=T.need;obtain⟨dx,ho⟩:=hR.ob;have TZ:At ts k ((Tn:Str)::(du t z++(db y++(S9:Str)::db n'))):=hA;have U5:=TZ.tl.r;have hA3:=U5.r;refine⟨_,rfl,a,dx,C,f1,_,LW,2,[R8,Sz],_,rfl,ho,rfl,T.cl,M1,F1,LV,B1,N5,fun p1 n1=>?_⟩;have s1:=ag (o:=.tup [.str Tn]) n1;refine⟨a,l,ts,k,me,Tn,p1,[Tn],rfl,hR.same s1,TZ.hd,.inr (NY.of ae),JW,fun H1 r1 b1=>?_⟩;have WE:N4 a H H1:=(bO s1).trans b1;refine⟨_,rfl,a,l,ts,k+1,me,t,z,rfl,r1,TZ.tl.l,hN,fun u H2 r2 b2 v2=>?_⟩;obtain⟨UO,TV⟩:=r2.ob;refine⟨_,rfl,_,rfl,_,rfl,a,l,ts,k+1+(du t z).length,me,y,w,c,rfl,hc,hw,r2,U5.l,hY,fun x H3 r3 b3 v3=>?_⟩;obtain⟨Vr,Ux⟩:=r3.ob;refine⟨_,rfl,a,Vr,C,f1,_,LW,2,[R8,Sz],_,rfl,Ux,rfl,T.cl,M1,F1,LV,B1,N5,fun p4 n4=>?_⟩;have s4:=ag (o:=.tup [.str S9]) n4;refine⟨a,l,ts,k+1+(du t z).length+(db y).length,me,S9,p4,[S9],rfl,r3.same s4,hA3.hd,.inr (NY.of ae),JW,fun H5 r5 b5=>?_⟩;have b35:N4 a H3 H5:=(bO s4).trans b5;obtain⟨VO,UM⟩:=r5.ob;refine⟨_,rfl,_,rfl,_,rfl,_,rfl,_,rfl,a,l,ts,k+1+(du t z).length+(db y).length+1,me,n',w,c,rfl,hc,hw,r5,hA3.tl,hM,fun x2 H6 r6 b6 v6=>⟨N5,fun p np=>?_⟩⟩;have s7:=ag (o:=.tup [.str Tn,u,x,x2]) np;have Yd:=ao s7;have k56:=b6.kt UM;have k35:=b35.kt Ux;have LS:k+(B7 (.ite t z y n')).length=k+1+(du t z).length+(db y).length+1+(db n').length:=by
   show k+((Tn:Str)::(du t z++(db y++(S9:Str)::db n'))).length=_;simp;lia
  refine q _ _ (by rw[LS];exact r6.same s7) (((((WE.trans b2).trans b3).trans b35).trans b6).same s7) ⟨p,u,x,x2,rfl,ae,?_,?_,?_⟩
  ·exact((((v2.kt (b3.kt TV)).kt k35).kt k56).kt Yd)
  ·exact((v3.kt k35).kt k56).kt Yd
  ·exact v6.kt Yd
def Ps:av [Sb,R_,SV,Tq] [Sb,R_,SV] (ak jK):=cV zk
def vD{w m:Nat}{s:List Gs}(h:eP w m (.leaf s e)):eP w 0 (.leaf s e):=by cases m<;>exact h
inductive y2(a:Ts)(w:Nat)(c:Ts)(C:Ts)(l:Ts)(ts:TH)(k:Nat)(b:Bd)(me:Bool)(H:Hp)(σ:St)(H':Hp):Prop
 |mk(u:_):σ=[some (.ref a),some (.int (w:Nat)),some (.int (c:Nat)),some u]->Om C H' a l ts (k+1+(B7 b).length) me->N4 a H H'->Qp H' b u->y2 a w c C l ts k b me H σ H'
def jh(F:Ob K "read_body" "read_body" jK f fd)(T:sy P w K mg base C)(Z:tK K mg aS aE aF t1 t2 t3 t4)(CH:Fn P w K mg base "read_choice" n [Sb,R_,SV] (jV C m))(LF:Fn P w K mg base "read_leaf" n [Sb,R_] (pC C))(hn:3<=n):NZ P w K mg base bZ (n+1) f fd [Sb,R_,SV] (kI C m):=by
 have ZZ:=Ps
 walk_at "o"
 ·obtain⟨a,l,ts,k,me,b,w,c,rfl,hc,hw,hR,hA,hB,q⟩:=h;have LU:N1 1 _:=hr.mono zo;have LV:N1 2 _:=hr.mono zo;refine⟨_,af (aM (bq (pv 0) (aa (ay (aa ai ac)) ac)))
   (bf (y2 a w c C l ts k b me H) (aQ (c9 (fun _ H'=>(Om C H' a l ts (k+1) me/\N4 a H H')/\∃t z y n,b=.ite t z y n) (fun _ H'=>(Om C H' a l ts (k+1) me/\N4 a H H')/\∃s e,b=.leaf s e) (PW.pt (bY (ap dY (pv 2) (bi (v:=.int 3) rfl Z.mc ⟨_,rfl⟩)) (bM (ap aW (aN (pv 0)) ai)))))
     (aj (bL (i:=3) Ps.nd (ar CH hr rfl (aa (pv 0) (aa (pv 1) (aa (aA bV (pv 2) ah) ac))))))
     (aj (bL (i:=3) Ps.nd (ar LF hr rfl (aa (pv 0) (aa (pv 1) ac))))))
   (af (aM (bq (pv 0) (aa (ay (aa ai ac)) ac)))
   (aj (aq (pv 3))))),?_⟩
  obtain⟨f1,LW,M1,F1,B1⟩:=T.need;obtain⟨f3,Uf,M3,F3,B3⟩:=T.look;obtain⟨dx,ho⟩:=hR.ob;rw[yX]at hA;have U5:=hA.tl;refine⟨_,rfl,a,dx,C,f1,_,LW,2,[R8,Sz],_,rfl,ho,rfl,T.cl,M1,F1,LV,B1,N5,fun p1 n1=>?_⟩;have s1:=ag (o:=.tup [.str "{"]) n1;refine⟨a,l,ts,k,me,"{",p1,["{"],rfl,hR.same s1,hA.hd,.inr (NY.of ae),JW,fun H1 r1 b1=>?_⟩;have WE:N4 a H H1:=(bO s1).trans b1;refine⟨?_,?_,?_,?_⟩
  ·rintro σ H2 ⟨u,rfl,r2,b2,v2⟩;obtain⟨UO,TV⟩:=r2.ob;refine⟨_,rfl,a,UO,C,f1,_,LW,2,[R8,Sz],_,rfl,TV,rfl,T.cl,M1,F1,LV,B1,N5,fun p3 n3=>?_⟩;have s3:=ag (o:=.tup [.str "}"]) n3;refine⟨a,l,ts,k+1+(B7 b).length,me,"}",p3,["}"],rfl,r2.same s3,U5.r.hd,.inr (NY.of ae),JW,fun H4 r4 b4=>?_⟩;have Wp:N4 a H2 H4:=(bO s3).trans b4;have LS:k+(db b).length=k+1+(B7 b).length+1:=by
    rw[yX];simp;lia
   exact⟨_,rfl,q _ _ (by rw[LS];exact r4) (b2.trans Wp) (v2.kt (Wp.kt TV))⟩
  ·rintro H2 ⟨⟨r2,b2⟩,t,z,y,n',rfl⟩;cases m with
   |zero=>exact absurd hB (by simp[eP])
   |succ m=>
    obtain⟨h1,h2,h3⟩:=hB;refine⟨_,rfl,_,rfl,_,rfl,_,_,rfl,rfl,a,l,ts,k+1,me,t,z,y,n',w,c+1,rfl,zo,hw,r2,U5.l,h1,h2,h3,fun v3 H3 r3 b3 YB=>?_⟩;exact⟨v3,rfl,r3,b2.trans b3,YB⟩
  ·rintro H2 ⟨⟨r2,b2⟩,ss,e,rfl⟩;refine⟨_,rfl,_,rfl,a,l,ts,k+1,me,ss,e,w,rfl,hw,r2,U5.l,vD hB,fun v3 H3 r3 b3 YB=>?_⟩;exact⟨v3,rfl,r3,b2.trans b3,YB⟩
  ·obtain⟨UD,TR⟩:=r1.ob;refine⟨_,rfl,_,_,rfl,rfl,_,rfl,?_⟩;cases b with
   |ite t z y n'=>
    have hm:m≠0:=by
     rintro rfl;simp[eP]at hB
    have hA3:At ts (k+1) ((Tn:Str)::(du t z++(db y++(S9:Str)::db n'))):=U5.l;refine bD (b_ zo) ⟨_,rfl,a,UD,C,f3,_,Uf,1,[R8],_,rfl,TR,rfl,T.cl,M3,F3,LU,B3,a,l,ts,k+1,me,Tn,rfl,r1,hA3.hd,rfl,_,rfl,bD (b_ rfl) ⟨⟨r1,WE⟩,t,z,y,n',rfl⟩⟩
   |leaf ss e=>
    refine bW (fun _=>?_) (fun _=>bK ⟨⟨r1,WE⟩,ss,e,rfl⟩);have hAl:At ts (k+1) (bQ ss++gA e):=U5.l;have htok:∃tk,(tz ts)[k+1]?=some tk/\tk≠Tn:=by
     cases ss with
     |nil=>
      have Yq:At ts (k+1) (gA e):=hAl;have hE:pq e:=(vD hB).2.2.2;refine⟨_,yV Yq,fun h=>?_⟩;have:=pE hE;rw[h]at this;revert this;decide +kernel
     |cons g r=>
      have Yq:At ts (k+1) ((("set":Str)::(jf g++bQ r))++gA e):=hAl;exact⟨_,Yq.hd,zk⟩
    obtain⟨tk,Yg,Ma⟩:=htok;refine⟨_,rfl,a,UD,C,f3,_,Uf,1,[R8],_,rfl,TR,rfl,T.cl,M3,F3,LU,B3,a,l,ts,k+1,me,tk,rfl,r1,Yg,rfl,_,rfl,be (d_ fun h=>Ma (V.str.inj h)) ⟨⟨r1,WE⟩,ss,e,rfl⟩⟩
end
def Oh.kt(k:N9 H H')(h:Oh H u x):Oh H' u x:=let⟨p,a,b⟩:=h;⟨p,a,k _ _ b⟩
def tU(ts:TH)(k:Nat)(fs:TM):Prop:=∀i(h:i<fs.length),(tz ts)[k+3*i]?=some fs[i].1/\N8 fs[i].1/\(tz ts)[k+3*i+1]?=some fs[i].2/\fs[i].2∈dq/\(i+1<fs.length->(tz ts)[k+3*i+2]?=some ",")
inductive mo(C:Ts)(vs:TQ)(H:Hp)(Q:VK)(Z3:XK):Prop
 |mk(a l ts k me fs:_):vs=[.ref a]->Om C H a l ts k me->(tz ts)[k]?=some "("->tU ts (k+1) fs->(tz ts)[k+1+(3*fs.length-1)]?=some ")"->fs.length<=3->(∀p us H',Om C H' a l ts (k+2+(3*fs.length-1)) me->N4 a H H'->H p=none->H' p=some (.tup us)->Paired (Oh H') us fs->Q (.ref p) H')->mo C vs H Q Z3
structure FI(C:Ts)(H:Hp)(a l:Ts)(ts:TH)(k:Nat)(me:Bool)(fs:TM)(j:Nat)(lf:Ts)(H':Hp):Prop where
 rd:Om C H' a l ts (k+(3*j-1)) me
 bt:N4 a H H'
 nf:H lf=none
 la:lf≠a
 ll:lf≠l
 ls:∃us,H' lf=some (.lst us)/\us.length=j/\Paired (Oh H') us (fs.take j)
section
def FI.more(I:FI C H a l ts k me fs j lf H3)(hj:j<fs.length)(hk:N9 H3 H4)(e4:H4 lf=some (.lst us))(hu:us.length=j)(hp:Paired (Oh H3) us (fs.take j))
  (r4:Om C H4 a l ts (k+(3*(j+1)-1)) me) (b4:N4 a H3 H4) (ep:H4 p=some (.tup [.str fs[j].1,.str fs[j].2])):FI C H a l ts k me fs (j+1) lf (aI H4 lf (.lst (us++[.ref p]))):=by
 have k2:=vB (ys:=us++[V.ref p]) e4;refine⟨⟨?_,?_,r4.le⟩,?_,I.nf,I.la,I.ll,us++[.ref p],ae,by simp[hu],?_⟩
 ·obtain⟨dx,ho⟩:=r4.ob;exact⟨dx,by rw[am I.la.symm];exact ho⟩
 ·rw[am I.ll.symm];exact r4.tk
 ·intro b o e nb;by_cases h:b=lf
  ·rw[h,I.nf]at e;cases e
  ·rw[am h];exact b4 _ _ (I.bt _ _ e nb) nb
 ·rw[KE,J1 hj];exact gO ⟨p,rfl,k2 _ _ ep⟩ (bF (fun _ _ h=>(h.kt hk).kt k2) hp)
def PK:av [Sb,S7] [Sb] (ak gI):=cV zk
def wT(F:Ob K "read_fields" "read_fields" gI f fd)(T:sy P w K mg base C)(Z:tK K mg aS aE aF t1 t2 t3 t4)(B:Bl mg)(FL:Fn P w K mg base "read_field" 3 [Sb] (pB C)):NZ P w K mg base bZ 4 f fd [Sb] (mo C):=by
 have ZZ:=PK
 walk_at "o"
 ·obtain⟨a,l,ts,k,me,fs,rfl,hR,h0,hf,he,h3,q⟩:=h;walk_at "w"
  refine⟨_,af (aM (bq (pv 0) (aa (ay (aa ai ac)) ac)))
   (af (bL (i:=1) PK.nd (aT ac))
   (bf (fun σ H'=>∃j lf,j=min 1 fs.length/\σ=[some (.ref a),some (.ref lf)]/\FI C H a l ts (k+1) me fs j lf H') (aQ (ap qD (aN (pv 0)) ai) (aj (aM (cu Kp Kk Kj bz (pv 1) (aa (ar FL hr rfl (aa (pv 0) ac)) ac)))) aB)
   (bf (fun σ H'=>∃lf,σ=[some (.ref a),some (.ref lf)]/\FI C H a l ts (k+1) me fs fs.length lf H') (fz h_ (PW.pt (bY (qE dY dY ah (aC aY (by rfl) B.len Kt (aa (pv 1) ac)) (bi (v:=.int 3) rfl Z.mf ⟨_,rfl⟩)) (bM (ap aW (aN (pv 0)) ai))))
    (af (aM (aN (pv 0))) (aj (aM (cu Kp Kk Kj bz (pv 1) (aa (ar FL hr rfl (aa (pv 0) ac)) ac))))))
   (af (aM (bq (pv 0) (aa (ay (aa ai ac)) ac)))
   (aj (aq (aV bh (by rfl) B.tuple br (aa (pv 1) ac)))))))),?_⟩
  obtain⟨f1,LW,M1,F1,B1⟩:=T.need;obtain⟨f2,Um,M2,F2,B2⟩:=T.take;obtain⟨f3,Uf,M3,F3,B3⟩:=T.look;obtain⟨dx,ho⟩:=hR.ob;refine⟨_,rfl,a,dx,C,f1,_,LW,2,[R8,Sz],_,rfl,ho,rfl,T.cl,M1,F1,hr.m,B1,N5,fun p1 n1=>?_⟩;have s1:=ag (o:=.tup [.str "("]) n1;refine⟨a,l,ts,k,me,"(",p1,["("],rfl,hR.same s1,h0,(.inr (NY.of ae)),by simp,fun H1 r1 b1=>?_⟩;have c1:N4 a H H1:=(bO s1).trans b1;obtain⟨UD,TR⟩:=r1.ob;refine⟨N5,fun lf nf=>?_⟩;have s2:=ag (o:=.lst []) nf;have e2:(aI H1 lf (.lst [])) lf=some (.lst []):=ae;have nH:H lf=none:=jg c1 TR nf;have laN:lf≠a:=by
   rintro rfl;rw[nH]at ho;cases ho
  have llN:lf≠l:=fun z=>by
   have:=hR.tk;rw[<-z,nH]at this;cases this
  have I0:FI C H a l ts (k+1) me fs 0 lf (aI H1 lf (.lst [])):=⟨r1.same s2,c1.same s2,nH,laN,llN,[],e2,rfl,.nil⟩;generalize aI H1 lf (.lst ([]:TQ))=H2 at*;refine⟨?_,?_⟩
  ·rintro σ H3 ⟨j0,lf,hj0,rfl,I3⟩;refine⟨?_,?_⟩
   ·rintro σ H4 ⟨lf,rfl,I4⟩;obtain⟨us,e4,l4,p4⟩:=I4.ls;rw[Ky]at p4;obtain⟨Va,Uv⟩:=I4.rd.ob;refine⟨_,rfl,a,Va,C,f1,_,LW,2,[R8,Sz],_,rfl,Uv,rfl,T.cl,M1,F1,hr.m,B1,N5,fun p2 n2=>?_⟩;have s4:=ag (o:=.tup [.str ")"]) n2;refine⟨a,l,ts,_,me,")",p2,[")"],rfl,I4.rd.same s4,he,(.inr (NY.of ae)),by simp,fun H5 r5 b5=>?_⟩;have e5:=b5 _ _ (s4 _ _ e4) I4.la;have k5:=(ao s4).trans (b5.kt (s4 _ _ Uv));obtain⟨VO,UM⟩:=r5.ob;have c5:N4 a H H5:=(I4.bt.same s4).trans b5;refine⟨_,rfl,lf,us,rfl,.inl ⟨N0.of e5,fun p3 n3=>?_⟩⟩;have s6:=ag (o:=.tup us) n3;refine q p3 us _ ?_ (c5.same s6) (jg c5 UM n3) ae (bF (fun _ _ h=>(h.kt k5).kt (ao s6)) p4);have:=r5.same s6;have ee:k+1+(3*fs.length-1)+1=k+2+(3*fs.length-1):=by lia
    rw[ee]at this;exact this
   ·refine⟨fun m σ H'=>∃j lf,m=fs.length-j/\j<=fs.length/\(0<j\/fs.length=0)/\σ=[some (.ref a),some (.ref lf)]/\FI C H a l ts (k+1) me fs j lf H',⟨_,j0,lf,rfl,zo,zo,rfl,I3⟩,?_⟩;rintro m σ H5 ⟨j,lf,rfl,hj,hj1,rfl,I5⟩;obtain⟨us,e5,l5,p5⟩:=I5.ls;obtain⟨VO,UM⟩:=I5.rd.ob;have done:j=fs.length->∃lf',[some (V.ref a),some (V.ref lf)]=[some (V.ref a),some (.ref lf')]/\FI C H a l ts (k+1) me fs fs.length lf' H5:=fun e=>⟨lf,rfl,e▸I5⟩;by_cases hj0':0<j
    ·by_cases Md:j<fs.length
     ·refine⟨_,rfl,lf,_,rfl,.inl (N0.of e5),_,_,rfl,rfl,_,rfl,bD (b_ (by rw[l5];lia)) ⟨_,_,rfl,rfl,_,rfl,bD (b_ (by rw[l5];lia)) ?_⟩⟩;obtain⟨_,_,_,_,hcm⟩:=hf (j-1) zo;have ZJ:(tz ts)[k+1+(3*j-1)]?=some ",":=by
       have:=hcm zo;rw[show k+1+3*(j-1)+2=k+1+(3*j-1)by lia]at this;exact this
      refine⟨_,rfl,a,VO,C,f3,_,Uf,1,[R8],_,rfl,UM,rfl,T.cl,M3,F3,hr.m,B3,a,l,ts,_,me,",",rfl,I5.rd,ZJ,rfl,_,rfl,bD zk ?_⟩;refine⟨fun σ' H'=>σ'=[some (.ref a),some (.ref lf)]/\FI C H a l ts (k+1) me fs (j+1) lf H',fun σ' H'⟨e1,e2⟩=>⟨_,zo,j+1,lf,rfl,zo,zo,e1,e2⟩,?_⟩;refine⟨_,rfl,a,VO,C,f2,_,Um,1,[R8],_,rfl,UM,rfl,T.cl,M2,F2,hr.m,B2,a,l,ts,_,me,",",rfl,I5.rd,ZJ,fun H6 r6 b6=>?_⟩;obtain⟨dx6,ho6⟩:=r6.ob;have e6:=b6 _ _ e5 I5.la;obtain⟨g1,g2,g3,g4,_⟩:=hf j Md;have ek:k+1+(3*j-1)+1=k+1+3*j:=by lia
      rw[ek]at r6;refine⟨_,rfl,.inl ⟨rfl,_,N0.of e6⟩,_,rfl,a,l,ts,_,me,fs[j],rfl,r6,g1,g2,g3,g4,fun p H7 r7 b7 np ep=>?_⟩;have e7:=b7 _ _ e6 I5.la;have ek2:k+1+3*j+2=k+1+(3*(j+1)-1):=by lia
      rw[ek2]at r7;exact⟨lf,us,_,rfl,rfl,e7,by rw[l5];lia,rfl,I5.more Md ((b6.kt UM).trans (b7.kt ho6)) e7 l5 p5 r7 (b6.trans b7) ep⟩
     ·have Y7:j=fs.length:=by lia
      have VM:(tz ts)[k+1+(3*j-1)]?=some ")":=by rw[Y7];exact he
      by_cases h3':j<3
      ·refine⟨_,rfl,lf,_,rfl,.inl (N0.of e5),_,_,rfl,rfl,_,rfl,bD (b_ (by rw[l5];lia)) ⟨_,_,rfl,rfl,_,rfl,bD (b_ (by rw[l5];lia)) ?_⟩⟩;refine⟨_,rfl,a,VO,C,f3,_,Uf,1,[R8],_,rfl,UM,rfl,T.cl,M3,F3,hr.m,B3,a,l,ts,_,me,")",rfl,I5.rd,VM,rfl,_,rfl,be zk (done Y7)⟩
      ·refine⟨_,rfl,lf,_,rfl,.inl (N0.of e5),_,_,rfl,rfl,_,rfl,bD (b_ (by rw[l5];lia)) ⟨_,_,rfl,rfl,_,rfl,be (d_ (by rw[l5];lia)) (bK (done Y7))⟩⟩
    ·have Y7:j=fs.length:=by lia
     refine⟨_,rfl,lf,_,rfl,.inl (N0.of e5),_,_,rfl,rfl,_,rfl,be (d_ (by rw[l5];lia)) ⟨_,rfl,bK (bK (done Y7))⟩⟩
  ·obtain⟨UO,TV⟩:=I0.rd.ob;by_cases hz:0<fs.length
   ·obtain⟨g1,g2,g3,g4,_⟩:=hf 0 hz;have nsc:fs[0].1≠(")":Str):=by
     intro z;obtain⟨_,_,_,hc⟩:=g2;rw[z]at hc;exact absurd (hc 41 zk) zo
    refine⟨_,rfl,a,UO,C,f3,_,Uf,1,[R8],_,rfl,TV,rfl,T.cl,M3,F3,hr.m,B3,a,l,ts,_,me,fs[0].1,rfl,I0.rd,g1,rfl,_,rfl,bD (by simpa using nsc) ?_⟩;refine⟨_,rfl,.inl ⟨rfl,_,N0.of e2⟩,_,rfl,a,l,ts,_,me,fs[0],rfl,I0.rd,g1,g2,g3,g4,fun p H7 r7 b7 np ep=>?_⟩;have e7:=b7 _ _ e2 I0.la;exact⟨lf,[],_,rfl,rfl,e7,by show 0<sizeLine;decide,1,lf,zo,rfl,I0.more hz (b7.kt TV) e7 rfl .nil r7 b7 ep⟩
   ·have hz0:fs.length=0:=by lia
    have VM:(tz ts)[k+1+(3*0-1)]?=some ")":=by rw[hz0]at he;exact he
    refine⟨_,rfl,a,UO,C,f3,_,Uf,1,[R8],_,rfl,TV,rfl,T.cl,M3,F3,hr.m,B3,a,l,ts,_,me,")",rfl,I0.rd,VM,rfl,_,rfl,be (by simp) ?_⟩;exact⟨0,lf,zo,rfl,I0⟩
end
structure Kn where
 name:Str
 fs:TM
 bd:Bd
 dd:Dd
inductive OQ(H:Hp)(u:V)(x:Kn):Prop
 |mk(p tf b us:_):u=.ref p->H p=some (.tup [.str x.name,.ref tf,b])->H tf=some (.tup us)->Paired (Oh H) us x.fs->Qp H x.bd b->OQ H u x
def OQ.kt(k:N9 H H')(h:OQ H u x):OQ H' u x:=by obtain⟨p,tf,b,us,a,c,d,e,f⟩:=h;exact ⟨p,tf,b,us,a,k _ _ c,k _ _ d,bF (fun _ _ h=>h.kt k) e,f.kt k⟩
def wU(x:Kn):Nat:=4+(3*x.fs.length-1)+(db x.bd).length
structure tV(ts:TH)(w k:Nat)(x:Kn):Prop where
 t0:(tz ts)[k]?=some So
 t1:(tz ts)[k+1]?=some x.name
 nm:N8 x.name
 t2:(tz ts)[k+2]?=some "("
 fl:tU ts (k+3) x.fs
 t3:(tz ts)[k+3+(3*x.fs.length-1)]?=some ")"
 le:x.fs.length<=3
 bt:At ts (k+4+(3*x.fs.length-1)) (db x.bd)
 bo:eP w 3 x.bd
inductive tW(C:Ts)(vs:TQ)(H:Hp)(Q:VK)(Z3:XK):Prop
 |mk(a l ts k me x:_)(w:Nat):vs=[.ref a,.int w]->w<=24->Om C H a l ts k me->tV ts w k x->(∀u H',Om C H' a l ts (k+wU x) me->N4 a H H'->OQ H' u x->Q u H')->tW C vs H Q Z3
section
def P4:av [Sb,R_,"name",S7] [Sb,R_] (ak jJ):=cV zk
def Ca(F:Ob K "read_kind" "read_kind" jJ f fd)(T:sy P w K mg base C)(FS:Fn P w K mg base "read_fields" 4 [Sb] (mo C))(BD:Fn P w K mg base "read_body" n [Sb,R_,SV] (kI C 3))(hn:4<=n):NZ P w K mg base bZ (n+1) f fd [Sb,R_] (tW C):=by
 have ZZ:=P4
 walk_at "o"
 ·obtain⟨a,l,ts,k,me,x,w,rfl,hw,hR,hK,q⟩:=h;have LV:N1 2 _:=hr.mono zo;have VS:N1 4 _:=hr.mono zo;refine⟨_,af (aM (bq (pv 0) (aa (ay (aa ai ac)) ac)))
   (af (bL (i:=2) P4.nd (aN (pv 0)))
   (af (bL (i:=3) P4.nd (ar FS VS rfl (aa (pv 0) ac)))
   (aj (aq (ay (aa (pv 2) (aa (pv 3) (aa (ar BD hr rfl (aa (pv 0) (aa (pv 1) (aa ah ac)))) ac)))))))),?_⟩
  obtain⟨f1,LW,M1,F1,B1⟩:=T.need;obtain⟨f2,Um,M2,F2,B2⟩:=T.nname;obtain⟨dx,ho⟩:=hR.ob;refine⟨_,rfl,a,dx,C,f1,_,LW,2,[R8,Sz],_,rfl,ho,rfl,T.cl,M1,F1,LV,B1,N5,fun p1 n1=>?_⟩;have s1:=ag (o:=.tup [.str So]) n1;refine⟨a,l,ts,k,me,So,p1,[So],rfl,hR.same s1,hK.t0,(.inr (NY.of ae)),by simp,fun H1 r1 b1=>?_⟩;obtain⟨UD,TR⟩:=r1.ob;refine⟨_,rfl,a,UD,C,f2,_,Um,2,[R8],_,rfl,TR,rfl,T.cl,M2,F2,LV,B2,a,l,ts,k+1,me,x.name,rfl,r1,hK.t1,hK.nm,fun H2 r2 b2=>?_⟩;refine⟨_,rfl,a,l,ts,k+2,me,x.fs,rfl,r2,hK.t2,hK.fl,hK.t3,hK.le,fun tf us H3 r3 b3 nf e3 p3=>?_⟩;obtain⟨Vr,Ux⟩:=r3.ob;have ek:k+2+2+(3*x.fs.length-1)=k+4+(3*x.fs.length-1):=by lia
  rw[ek]at r3;refine⟨_,rfl,_,rfl,_,rfl,_,rfl,a,l,ts,k+4+(3*x.fs.length-1),me,x.bd,w,0,rfl,rfl,hw,r3,hK.bt,hK.bo,fun u H4 r4 b4 hu=>⟨N5,fun pt Xl=>?_⟩⟩;have s5:=ag (o:=.tup [.str x.name,.ref tf,u]) Xl;have k4:=b4.kt Ux;have r5:=r4.same s5;rw[show k+4+(3*x.fs.length-1)+(db x.bd).length=k+wU x by unfold wU;lia]at r5;exact q _ _ r5 ((((((bO s1).trans b1).trans b2).trans b3).trans b4).same s5) ⟨pt,tf,u,us,rfl,ae,s5 _ _ (k4 _ _ e3),bF (fun _ _ h=>(h.kt k4).kt (ao s5)) p3,hu.kt (ao s5)⟩
abbrev tX:Stmt:=cJ eM 0
inductive pG(C:Ts)(vs:TQ)(H:Hp)(Q:VK)(Z3:XK):Prop
 |mk(x dx lt ts:_):vs=[.ref x,.ref lt]->H x=some (.ins C dx [])->H lt=some (.lst (al ts))->ts.length<=1500->(∀l H',Om C H' x l ts 0 true->N4 x H H'->Q .non H')->pG C vs H Q Z3
def Cb:av [R8,SE] [R8,SE] (ak tX):=cV zk
end
def Cd(h:xs.length<=1500):km xs none (some 1500)=xs:=by
 have e1:HT.sIx xs.length 0 none=0:=rfl;have e2:HT.sIx xs.length xs.length (some 1500)=xs.length:=by
  simp only[HT.sIx];rw[f_ zd];show min 1500 xs.length=xs.length;lia
 unfold km;rw[e1,e2];simp
section
def y3(F:Ob K "__init__" "Reader.__init__" tX f fd)(T:Rc K C)(B:Bl mg)(hm:mg "MOST_TOKENS"=some (.int 1500 t5)):NZ P w K mg base bZ 1 f fd [R8,SE] (pG C):=by
 have ZZ:=Cb
 walk_at "o"
 ·obtain⟨x,dx,lt,ts,rfl,hx,hl,Yt,q⟩:=h;refine⟨_,af (eL (pv 0) (aA dL (dC oO (pv 1) i7 (cW (bi (v:=.int 1500) rfl hm ⟨_,rfl⟩))) (aT (aa ai ac))) rfl)
   (af (eL (pv 0) ah rfl) (aj (eL (pv 0) (cq i4 (aC aY (by rfl) B.len Kt (aa (pv 1) ac)) (bi (v:=.int 1500) rfl hm ⟨_,rfl⟩)) rfl))),?_⟩
  have lv:(al ts).length<=1500:=by unfold al;rw[JY];exact Yt
  have sz:(10000:Nat)<=sizeLine:=by decide
  refine⟨_,rfl,_,rfl,lt,_,rfl,N0.of hl,fun p1 n1=>?_⟩;rw[Cd lv];generalize zz:aI H p1 _=H1;have s1:=(nw n1 zz).1;have e1:H1 p1=some (.lst (al ts)):=(nw n1 zz).2;clear zz;refine⟨N5,fun p2 n2=>?_⟩;have s2:=ag (o:=.lst [.str ""]) n2;have Mc:=s1.trans s2;refine⟨p1,p2,_,_,rfl,rfl,s2 _ _ e1,ae,by show _+1<=_;lia,fun l nl=>?_⟩;have s3:=ag (o:=.lst (al ts++[.str ""])) nl;have Wq:=Mc.trans s3;have el:(aI (aI H1 p2 (.lst [.str ""])) l (.lst (al ts++[.str ""]))) l=some (.lst (al (ts++[("":Str)]))):=by
   rw[ae];unfold al;rw[Kb];rfl
  have nlH:H l=none:=Mc.free nl;generalize aI (aI H1 p2 (.lst [V.str ""])) l (.lst (al ts++[V.str ""]))=H3 at*;have lx:l≠x:=by
   rintro rfl;rw[nlH]at hx;cases hx
  have ltx:lt≠x:=by
   rintro rfl;rw[hl]at hx;cases hx
  refine⟨_,rfl,x,C,dx,_,rfl,Wq _ _ hx,T.cl,T.n1,(by show 0<1000;decide),?_⟩;refine⟨_,rfl,x,C,dx,_,rfl,ae,T.cl,T.n2,(by show 1<1000;decide),?_⟩;have Yk:(aI (aI H3 x (.ins C dx (aL SE (.ref l) []))) x (.ins C dx (aL Tj (.int 0) (aL SE (.ref l) [])))) lt=some (.lst (al ts)):=by rw[am ltx,am ltx];exact Wq _ _ hl
  refine⟨_,rfl,lt,_,rfl,.inl (N0.of Yk),_,_,rfl,rfl,?_⟩;refine⟨_,rfl,x,C,dx,_,rfl,ae,T.cl,T.n3,(by show 2<1000;decide),?_⟩;have hd:decide (((al ts).length:Int)<=1500)=true:=b_ zo;have eF:(aL "may_end" (.bl (decide (((al ts).length:Int)<=1500))) (aL Tj (.int 0) (aL SE (.ref l) [])))=Be l 0 true:=by rw[hd];rfl
  refine q l _ ⟨⟨dx,?_⟩,?_,Yt⟩ ?_
  ·rw[ae];exact e_ some (e_ (HO.ins C dx) eF)
  ·rw[am lx,am lx,am lx];exact el
  ·intro b o e nb;rw[am nb,am nb,am nb];exact Wq _ _ e
end
structure Fm where
 width:Nat
 cells:Nat
 depth:Nat
 places:TH
 marks:TH
 gates:TH
 kinds:List Kn
def kJ(ts:TH)(w:Nat):Nat->List Kn->Prop
 |k,[]=>k=ts.length
 |k,x::r=>tV ts w k x/\kJ ts w (k+wU x) r
structure pH(ts:TH)(D:Fm):Prop where
 a0:(tz ts)[0]?=some (SA:Str)
 a1:(tz ts)[1]?=some (toString (D.width:Int):Str)
 a2:(tz ts)[2]?=some (";":Str)
 a3:(tz ts)[3]?=some (Se:Str)
 a4:(tz ts)[4]?=some (toString (D.cells:Int):Str)
 a5:(tz ts)[5]?=some (";":Str)
 a6:(tz ts)[6]?=some (Sh:Str)
 a7:(tz ts)[7]?=some (toString (D.depth:Int):Str)
 a8:(tz ts)[8]?=some (";":Str)
 a9:(tz ts)[9]?=some (Sa:Str)
 pn:rB ts 10 D.places
 pe:(tz ts)[10+D.places.length]?=some (";":Str)
 m9:(tz ts)[11+D.places.length]?=some (Sg:Str)
 mn:rB ts (12+D.places.length) D.marks
 me:(tz ts)[12+D.places.length+D.marks.length]?=some (";":Str)
 g9:(tz ts)[13+D.places.length+D.marks.length]?=some (Sx:Str)
 gn:rB ts (14+D.places.length+D.marks.length) D.gates
 ge:(tz ts)[14+D.places.length+D.marks.length+D.gates.length]?=some (";":Str)
 ks:kJ ts D.width (15+D.places.length+D.marks.length+D.gates.length) D.kinds
 bw:4<=D.width/\D.width<=24
 bc:4<=D.cells/\D.cells<=64
 bd:D.depth<=8
 bp:1<=D.places.length/\D.places.length<=4
 bm:D.marks.length<=3
 bg:D.gates.length<=1
 bk:1<=D.kinds.length/\D.kinds.length<=8
inductive y4(H:Hp)(u:V)(D:Fm):Prop
 |mk(p pp pm pg pk us:_):u=.ref p->H p=some (.tup [.int D.width,.int D.cells,.int D.depth,.ref pp,.ref pm,.ref pg,.ref pk])->H pp=some (.tup (al D.places))->H pm=some (.tup (al D.marks))->H pg=some (.tup (al D.gates))->H pk=some (.tup us)->Paired (OQ H) us D.kinds->y4 H u D
inductive tY(vs:TQ)(H:Hp)(Q:VK)(Z3:XK):Prop
 |mk(lt ts D:_):vs=[.ref lt]->H lt=some (.lst (al ts))->ts.length<=1500->pH ts D->(∀u H',NV H H'->y4 H' u D->Q u H')->tY vs H Q Z3
def fJ(na:H a=none)(sc:NV H Hc)(b:N4 a Hc H'):NV H H':=fun c o e=>b c o (sc c o e) (az e na)
structure KI(C:Ts)(Hc:Hp)(a l:Ts)(ts:TH)(all done j':List Kn)(lk pp pm pg:Ts)(D:Fm)(H':Hp):Prop where
 sp:all=done++j'
 rd:∃k,Om C H' a l ts k true/\kJ ts D.width k j'
 bt:N4 a Hc H'
 nk:Hc lk=none
 la:lk≠a
 ll:lk≠l
 ep:H' pp=some (.tup (al D.places))
 em:H' pm=some (.tup (al D.marks))
 eg:H' pg=some (.tup (al D.gates))
 ls:∃us,H' lk=some (.lst us)/\us.length=done.length/\Paired (OQ H') us done
section
def OA:av [SE,Sb,R_,Se,Sh,Sa,Sg,"gates",SC] [SE] (ak jI):=cV zk
def Ce(F:Ob K "read_form" "read_form" jI f fd)(T:sy P w K mg base C)(Z:tK K mg aS aE aF t1 t2 t3 t4)(B:Bl mg)(MK:Mk K C fi)(mgR:mg "Reader"=some (.ref C))(IN:NZ P w K mg base bZ 1 fi fdi [R8,SE] (pG C))(bI:Oa K fdi [R8,SE] [])
  (BO:Fn P w K mg base "read_bounded" 4 [Sb,SA,To,S_] (jS C)) (NA:Fn P w K mg base "read_names" 3 [Sb,SA,"least","most"] (pi C)) (KD:Fn P w K mg base "read_kind" n [Sb,R_] (tW C)) (hn:6<=n):NZ P w K mg base bZ (n+1) f fd [SE] tY:=by
 have ZZ:=OA
 walk_at "o"
 ·obtain⟨lt,ts,D,rfl,hl,Yt,hF,q⟩:=h;have LU:N1 1 _:=hr.mono zo;have LV:N1 2 _:=hr.mono zo;have Uu:N1 3 _:=hr.mono zo;have VS:N1 4 _:=hr.mono zo;have sz:(10000:Nat)<=sizeLine:=by decide
  refine⟨_,af (bL (i:=1) OA.nd (uV MK IN LV rfl mgR bI .nil iq (aa (pv 0) ac)))
   (af (bL (i:=2) OA.nd (ar BO VS rfl (aa (pv 1) (aa ai (aa ah (aa ah ac))))))
   (af (bL (i:=3) OA.nd (ar BO VS rfl (aa (pv 1) (aa ai (aa ah (aa ah ac))))))
   (af (bL (i:=4) OA.nd (ar BO VS rfl (aa (pv 1) (aa ai (aa ah (aa ah ac))))))
   (af (bL (i:=5) OA.nd (ar NA Uu rfl (aa (pv 1) (aa ai (aa ah (aa ah ac))))))
   (af (bL (i:=6) OA.nd (ar NA Uu rfl (aa (pv 1) (aa ai (aa ah (aa ah ac))))))
   (af (bL (i:=7) OA.nd (ar NA Uu rfl (aa (pv 1) (aa ai (aa ah (aa ah ac))))))
   (af (bL (i:=8) OA.nd (aT (aa (ar KD hr rfl (aa (pv 1) (aa (pv 2) ac))) ac)))
   (af (fz h_ (PW.pt (bY (ap dY (aC aY (by rfl) B.len Kt (aa (pv 8) ac)) (bi (v:=.int 8) rfl Z.mkn ⟨_,rfl⟩)) (bM (ap aW (aN (pv 1)) ai))))
    (aj (aM (cu Kp Kk Kj bz (pv 8) (aa (ar KD hr rfl (aa (pv 1) (aa (pv 2) ac))) ac)))))
   (af (aM (aN (pv 1)))
   (aj (aq (ay (aa (pv 2) (aa (pv 3) (aa (pv 4) (aa (pv 5) (aa (pv 6) (aa (pv 7) (aa (aV bh (by rfl) B.tuple br (aa (pv 8) ac)) ac))))))))))))))))))),?_⟩
  obtain⟨f3,Uf,M3,F3,B3⟩:=T.look;obtain⟨f4,W7,M4,F4,B4⟩:=T.nend;refine⟨_,rfl,fun a dx na nd ne=>⟨a,dx,lt,ts,rfl,ae,?_,Yt,fun l H1 r1 b1=>⟨rfl,?_⟩⟩⟩
  ·exact(ci na (ag nd)) _ _ hl
  have s1:NV H H1:=fJ na (ci na (ag nd)) b1;have naH:=na;clear b1;refine⟨_,rfl,a,l,ts,0,true,SA,D.width,4,24,rfl,r1,hF.a0,hF.a1,hF.a2,by have:=hF.bw;lia,hF.bw.1,hF.bw.2,fun H2 r2 b2=>?_⟩;refine⟨_,rfl,a,l,ts,3,true,Se,D.cells,4,64,rfl,r2,hF.a3,hF.a4,hF.a5,by have:=hF.bc;lia,hF.bc.1,hF.bc.2,fun H3 r3 b3=>?_⟩;refine⟨_,rfl,a,l,ts,6,true,Sh,D.depth,0,8,rfl,r3,hF.a6,hF.a7,hF.a8,by have:=hF.bd;lia,KO _,hF.bd,fun H4 r4 b4=>?_⟩;have b14:=(b2.trans b3).trans b4;refine⟨_,rfl,a,l,ts,9,true,Sa,D.places,1,4,rfl,r4,hF.a9,hF.pn,hF.pe,hF.bp.1,hF.bp.2,zd,fun pp H5 r5 b5 np5 e5=>?_⟩;refine⟨_,rfl,a,l,ts,9+2+D.places.length,true,Sg,D.marks,0,3,rfl,r5,?_,?_,?_,KO _,hF.bm,zd,fun pm H6 r6 b6 np6 e6=>?_⟩
  ·exact hF.m9
  ·rw[show 9+2+D.places.length+1=12+D.places.length by lia];exact hF.mn
  ·rw[show 9+2+D.places.length+1+D.marks.length=12+D.places.length+D.marks.length by lia];exact hF.me
  obtain⟨VO,UM⟩:=r5.ob;have Zl:=(b6.kt UM) _ _ e5;refine⟨_,rfl,a,l,ts,9+2+D.places.length+2+D.marks.length,true,Sx,D.gates,0,1,rfl,r6,?_,?_,?_,KO _,hF.bg,zd,fun pg H7 r7 b7 np7 e7=>?_⟩
  ·rw[show 9+2+D.places.length+2+D.marks.length=13+D.places.length+D.marks.length by lia];exact hF.g9
  ·rw[show 9+2+D.places.length+2+D.marks.length+1=14+D.places.length+D.marks.length by lia];exact hF.gn
  ·rw[show 9+2+D.places.length+2+D.marks.length+1+D.gates.length=14+D.places.length+D.marks.length+D.gates.length by lia];exact hF.ge
  obtain⟨dx6,ho6⟩:=r6.ob;have e5'':=(b7.kt ho6) _ _ Zl;have e6':=(b7.kt ho6) _ _ e6;rw[show 9+2+D.places.length+2+D.marks.length+2+D.gates.length=15+D.places.length+D.marks.length+D.gates.length by lia]at r7;have b17:N4 a H1 H7:=((b14.trans b5).trans b6).trans b7;have hks:=hF.ks;have hbk:=hF.bk;generalize 15+D.places.length+D.marks.length+D.gates.length=k0 at*;obtain⟨x0,Xb,Y5⟩:∃x r,D.kinds=x::r:=by
   cases hh:D.kinds with
   |nil=>rw[hh]at hbk;simp at hbk
   |cons x r=>exact⟨x,r,rfl⟩
  rw[Y5]at hks hbk;obtain⟨hK0,hks'⟩:=hks;refine⟨_,rfl,_,rfl,a,l,ts,k0,true,x0,D.width,rfl,hF.bw.2,r7,hK0,fun u0 H8 r8 b8 hu0=>?_⟩;obtain⟨dx7,ho7⟩:=r7.ob;have kk8:=b8.kt ho7;refine⟨N5,fun lk nk=>?_⟩;have s9:=ag (o:=.lst [u0]) nk;have b19:N4 a H1 (aI H8 lk (.lst [u0])):=(b17.trans b8).same s9;obtain⟨dx8,ho8⟩:=r8.ob;obtain⟨UD,TR⟩:=r1.ob;have nkH1:H1 lk=none:=jg (b17.trans b8) ho8 nk;have lka:lk≠a:=by
   rintro rfl;rw[ho8]at nk;cases nk
  have lkl:lk≠l:=fun z=>by
   have:=r8.tk;rw[<-z,nk]at this;cases this
  have I0:KI C H1 a l ts D.kinds [x0] Xb lk pp pm pg D (aI H8 lk (.lst [u0])):=⟨Y5,⟨_,r8.same s9,hks'⟩,b19,nkH1,lka,lkl,s9 _ _ (kk8 _ _ e5''),s9 _ _ (kk8 _ _ e6'),s9 _ _ (kk8 _ _ e7),[u0],ae,rfl,.cons (hu0.kt (ao s9)) .nil⟩;generalize aI H8 lk (.lst [u0])=H9 at*;refine⟨fun m σ H'=>∃done j',m=j'.length/\σ=[some (.ref lt),some (.ref a),some (.int D.width),some (.int D.cells),some (.int D.depth),some (.ref pp),some (.ref pm),some (.ref pg),some (.ref lk)]/\KI C H1 a l ts D.kinds done j' lk pp pm pg D H',⟨_,[x0],Xb,rfl,rfl,I0⟩,?_⟩;rintro m σ Ha ⟨done,j',rfl,rfl,I⟩;obtain⟨us,ek,lu,pu⟩:=I.ls;obtain⟨k,rk,Y4⟩:=I.rd;obtain⟨dxa,YZ⟩:=rk.ob;have V_:done.length+j'.length<=8:=by
   have:=e_ List.length I.sp;rw[JU,Y5]at this;simp only[JX]at this hbk;lia
  cases j' with
  |cons x r=>
   obtain⟨hKx,hkr'⟩:=Y4;have Md:done.length<8:=by simp only[JX]at V_;lia
   refine⟨_,rfl,lk,_,rfl,.inl (N0.of ek),_,_,rfl,rfl,_,rfl,bD (b_ (by rw[lu];lia)) ?_⟩;refine⟨_,rfl,a,dxa,C,f3,_,Uf,1,[R8],_,rfl,YZ,rfl,T.cl,M3,F3,LU,B3,a,l,ts,k,true,So,rfl,rk,hKx.t0,rfl,_,rfl,bD zk ?_⟩;refine⟨fun σ' H'=>σ'=[some (.ref lt),some (.ref a),some (.int D.width),some (.int D.cells),some (.int D.depth),some (.ref pp),some (.ref pm),some (.ref pg),some (.ref lk)]/\KI C H1 a l ts D.kinds (done++[x]) r lk pp pm pg D H',fun σ' H'⟨e1,e2⟩=>⟨r.length,by simp,done++[x],r,rfl,e1,e2⟩,?_⟩;refine⟨_,rfl,.inl ⟨rfl,_,N0.of ek⟩,_,rfl,_,rfl,a,l,ts,k,true,x,D.width,rfl,hF.bw.2,rk,hKx,fun u Hb rb bb hu=>?_⟩;have kb:=bb.kt YZ;have eb:=bb _ _ ek I.la;have k2:=vB (ys:=us++[u]) eb;refine⟨lk,us,_,rfl,rfl,eb,by rw[lu];lia,rfl,?_⟩;refine⟨by rw[I.sp,KH];rfl,⟨_,⟨?_,?_,rb.le⟩,hkr'⟩,?_,I.nk,I.la,I.ll,k2 _ _ (kb _ _ I.ep),k2 _ _ (kb _ _ I.em),k2 _ _ (kb _ _ I.eg),us++[u],ae,by simp[lu],gO (hu.kt k2) (bF (fun _ _ h=>(h.kt kb).kt k2) pu)⟩
   ·obtain⟨dxb,hob⟩:=rb.ob;exact⟨dxb,by rw[am I.la.symm];exact hob⟩
   ·rw[am I.ll.symm];exact rb.tk
   ·intro b o e nb;by_cases h:b=lk
    ·rw[h,I.nk]at e;cases e
    ·rw[am h];exact bb _ _ (I.bt _ _ e nb) nb
  |nil=>
   have hkE:k=ts.length:=Y4;have Xe:D.kinds=done:=by rw[I.sp,KB]
   have lend:(tz ts)[k]?=some "":=by rw[hkE];simp[tz]
   have nke:("":Str)≠(So:Str):=by decide +kernel
   have sH:NV H Ha:=fJ naH s1 I.bt;by_cases h8:done.length<8
   ·refine⟨_,rfl,lk,_,rfl,.inl (N0.of ek),_,_,rfl,rfl,_,rfl,bD (b_ (by rw[lu];lia)) ?_⟩;refine⟨_,rfl,a,dxa,C,f3,_,Uf,1,[R8],_,rfl,YZ,rfl,T.cl,M3,F3,LU,B3,a,l,ts,k,true,"",rfl,rk,lend,rfl,_,rfl,be zk ?_⟩;refine⟨_,rfl,a,dxa,C,f4,_,W7,1,[R8],_,rfl,YZ,rfl,T.cl,M4,F4,LU,B4,a,l,ts,k,rfl,rk,hkE,?_⟩;refine⟨_,rfl,_,rfl,_,rfl,_,rfl,_,rfl,_,rfl,_,rfl,lk,us,rfl,.inl ⟨N0.of ek,fun pk YL=>⟨N5,fun pt Xl=>?_⟩⟩⟩;have X':=ag (o:=.tup us) YL;have VE:=ag (o:=.tup [.int D.width,.int D.cells,.int D.depth,.ref pp,.ref pm,.ref pg,.ref pk]) Xl;have Mc:=X'.trans VE;exact q _ _ (sH.trans Mc) ⟨pt,pp,pm,pg,pk,us,rfl,ae,Mc _ _ I.ep,Mc _ _ I.em,Mc _ _ I.eg,VE _ _ ae,by rw[Xe];exact bF (fun _ _ h=>h.kt (ao Mc)) pu⟩
   ·refine⟨_,rfl,lk,_,rfl,.inl (N0.of ek),_,_,rfl,rfl,_,rfl,be (d_ (by rw[lu];lia)) (bK ?_)⟩;refine⟨_,rfl,a,dxa,C,f4,_,W7,1,[R8],_,rfl,YZ,rfl,T.cl,M4,F4,LU,B4,a,l,ts,k,rfl,rk,hkE,?_⟩;refine⟨_,rfl,_,rfl,_,rfl,_,rfl,_,rfl,_,rfl,_,rfl,lk,us,rfl,.inl ⟨N0.of ek,fun pk YL=>⟨N5,fun pt Xl=>?_⟩⟩⟩;have X':=ag (o:=.tup us) YL;have VE:=ag (o:=.tup [.int D.width,.int D.cells,.int D.depth,.ref pp,.ref pm,.ref pg,.ref pk]) Xl;have Mc:=X'.trans VE;exact q _ _ (sH.trans Mc) ⟨pt,pp,pm,pg,pk,us,rfl,ae,Mc _ _ I.ep,Mc _ _ I.em,Mc _ _ I.eg,VE _ _ ae,by rw[Xe];exact bF (fun _ _ h=>h.kt (ao Mc)) pu⟩
end
abbrev Ne:=Str×Str×Bool×Nat
def jX(b:Bool):Str:=if b then "by" else "is"
def Q0(H:Hp)(kv:dv×V)(x:Ne):Prop:=kv.1=Sum.inr x.1/\∃p q,kv.2=.ref p/\H p=some (.tup [.str x.2.1,.ref q])/\H q=some (.tup [.str (jX x.2.2.1),.int (x.2.2.2:Nat)])
inductive O5(H:Hp)(d:Ts)(ks:List Ne):Prop
 |mk(kvs:_):H d=some (.dK kvs)->Paired (Q0 H) kvs ks->O5 H d ks
def Q0.kt(k:N9 H H')(h:Q0 H kv x):Q0 H' kv x:=by obtain⟨a,p,q,b,c,d⟩:=h;exact ⟨a,p,q,b,k _ _ c,k _ _ d⟩
def Dw(e:H l=some (.dK xs)):N9 H (aI H l (.dK ys)):=fun b us h=>by
 rw[am]
 ·exact h
 ·rintro rfl;rw[e]at h;cases h
def y6:∀{kvs:List (dv×V)}{ks:List Ne},Paired (Q0 H) kvs ks->∀{z:Str},z∉ks.map (·.1)->bx kvs (Sum.inr z)=none
 |_,_,.nil,_,_=>qU
 |_,_,.cons (a:=kv) (b:=x) h t,z,hz=>by
  rw[cg]
  ·exact y6 t (fun m=>hz (JZ _ m))
  ·intro e;rw[h.1]at e;have:=RR e;exact hz (by rw[Kd,this];exact JW)
def vF:∀{kvs:List (dv×V)}{ks:List Ne},Paired (Q0 H) kvs ks->∀{z s:Str}{b:Bool}{n:Nat},(z,s,b,n)∈ks->(ks.map (·.1)).Nodup->∃p q,bx kvs (Sum.inr z)=some (.ref p)/\H p=some (.tup [.str s,.ref q])/\H q=some (.tup [.str (jX b),.int (n:Nat)])
 |_,_,.nil,_,_,_,_,m,_=>by cases m
 |_,_,.cons (a:=kv) (b:=x) h t,z,s,b,n,m,nd=>by
  rw[Kd,Ly]at nd;rcases J0.mp m with e|m'
  ·obtain⟨e1,p,q,e2,e3,e4⟩:=h;subst e;refine⟨p,q,?_,e3,e4⟩;rw[cC e1,e2]
  ·have Ma:¬kv.1=Sum.inr z:=by
    intro e;rw[h.1]at e;have:=RR e;exact nd.1 (by rw[this];exact Kr.mpr ⟨(z,s,b,n),m',rfl⟩)
   rw[cg Ma];exact vF t m' nd.2
inductive hI(vs:TQ)(H:Hp)(Q:VK)(Z3:XK):Prop
 |mk(d ks nm st q:_)(b:Bool)(n:Nat):vs=[.ref d,.str nm,.str st,.ref q]->O5 H d ks->H q=some (.tup [.str (jX b),.int (n:Nat)])->nm∉ks.map (·.1)->ks.length<=20->(∀H',O5 H' d (ks++[(nm,st,b,n)])->N4 d H H'->Q .non H')->hI vs H Q Z3
inductive cP(K:ZF)(vs:TQ)(H:Hp)(Q:VK)(Z3:XK):Prop
 |mk(d ks nm st p xs:_)(b:Bool)(n:Nat):vs=[.ref d,.str nm,.ref p]->O5 H d ks->(nm,st,b,n)∈ks->(ks.map (·.1)).Nodup->(N0 K H p (al xs)\/NY K H p (al xs))->st∈xs->(∀t q H',NV H H'->H' t=some (.tup [.str st,.ref q])->H' q=some (.tup [.str (jX b),.int (n:Nat)])->Q (.ref t) H')->cP K vs H Q Z3
section
def wV:av [Sj,"name",Tl,"sel"] [Sj,"name",Tl,"sel"] (ak lU):=cV zk
def tZ(F:Ob K "add_name" "add_name" lU f fd):NZ P w K mg base bZ 1 f fd [Sj,"name",Tl,"sel"] hI:=by
 have ZZ:=wV
 walk_at "o"
 ·obtain⟨d,ks,nm,st,sq,b,n,rfl,hN,hq,hm,hk,q⟩:=h;have hu:=eY hr;refine⟨_,af (aQ (lB (yw hu (pv 1) (pv 0))) (aj da) aB) (aj (gW hu (pv 0) (pv 1) (ay (aa (pv 2) (aa (pv 3) ac))) rfl)),?_⟩;obtain⟨kvs,hd,hp⟩:=hN;have VJ:=y6 hp hm;have lk:=hp.length;have szz:(1000:Nat)<=sizeLine:=by decide
  have g:Oz H d (.str nm) none:=by
   have:=Oz.k (k:=Sum.inr nm) hd;rw[VJ]at this;exact this
  refine⟨_,rfl,_,rfl,d,_,rfl,g,_,rfl,bK ?_⟩;refine⟨_,rfl,_,rfl,N5,fun p np=>?_⟩;generalize zz:aI H p _=H1;have⟨s1,ep⟩:=nw np zz;clear zz;have hd1:=s1 _ _ hd;have hq1:=s1 _ _ hq;refine⟨_,rfl,_,rfl,d,_,rfl,O6.k (k:=Sum.inr nm) hd1 zo,?_⟩;rw[qX _ VJ];have k1:=Dw (ys:=kvs++[(Sum.inr nm,V.ref p)]) hd1;refine q _ ⟨_,ae,gO ⟨rfl,p,sq,rfl,k1 _ _ ep,k1 _ _ hq1⟩ (bF (fun _ _ h=>(h.kt (ao s1)).kt k1) hp)⟩ (fun b o e nb=>?_);rw[am nb];exact s1 _ _ e
def OE:av [Sj,"name",Tk,Tl,"sel"] [Sj,"name",Tk] (ak iG):=cV zk
def pI(F:Ob K "need_known" "need_known" iG f fd):NZ P w K mg base bZ 1 f fd [Sj,"name",Tk] (cP K):=by
 have ZZ:=OE
 walk_at "o"
 ·obtain⟨d,ks,nm,st,p,xs,b,n,rfl,hN,hm,L',hq,hs,q⟩:=h;have hu:=eY hr;refine⟨_,af (aQ (lB (wK hu (pv 1) (pv 0))) (aj da) aB)
   (af (gB (aZ hu (pv 0) (pv 1)) (dA rfl (aw (cG (i:=3) OE.nd) (aw (cG (i:=4) OE.nd) bB))))
   (af (aQ (ap eo (pv 3) (pv 2) rfl) (aj da) aB)
   (aj (aq (ay (aa (pv 3) (aa (pv 4) ac))))))),?_⟩
  obtain⟨kvs,hd,hp⟩:=hN;obtain⟨p0,sq,hv,e0,e1⟩:=vF hp hm L';have g:Oz H d (.str nm) (some (.ref p0)):=by
   have:=Oz.k (k:=Sum.inr nm) hd;rw[hv]at this;exact this
  refine⟨_,rfl,_,rfl,d,_,rfl,g,_,rfl,bK ?_⟩;refine⟨_,rfl,_,rfl,d,_,rfl,g,p0,_,rfl,NY.of e0,rfl,_,_,rfl,_,_,rfl,rfl,?_⟩;refine⟨_,rfl,_,rfl,p,al xs,rfl,hq,rfl,dm _,_,rfl,be ?_ ?_⟩
  ·show(!ky (.str st) (al xs))=false;rw[dR,KM.mpr hs];rfl
  ·refine⟨_,rfl,_,rfl,N5,fun t nt=>?_⟩;exact q t sq _ (ag nt) ae (ag nt _ _ e1)
end
def ua:bootBuiltins "dict"=some (.type "dict"):=by decide +kernel
structure EH(mg:Str->Option Tr):Prop where
 dict:mg "dict"=none
 enumerate:mg "enumerate"=none
def fN(fs:TM):List Ne:=fs.mapIdx fun j x=>(x.1,x.2,true,j)
def y8(fs:TM)(i:Nat):(fN fs)[i]?=fs[i]?.map fun x=>(x.1,x.2,true,i):=by unfold fN;rw[List.getElem?_mapIdx]
def ub(fs:TM):(fN fs).length=fs.length:=by unfold fN;simp
inductive y9(vs:TQ)(H:Hp)(Q:VK)(Z3:XK):Prop
 |mk(d tf us ks fs:_):vs=[.ref d,.ref tf]->O5 H d ks->H tf=some (.tup us)->Paired (Oh H) us fs->((ks++fN fs).map (·.1)).Nodup->ks.length+fs.length<=20->(∀d' H',NV H H'->H d'=none->O5 H' d' (ks++fN fs)->Q (.ref d') H')->y9 vs H Q Z3
section
def PM:av [Sj,S7,"within","j","name",Tl] [Sj,S7] (ak iH):=cV zk
def EI(F:Ob K "names_with_fields" "names_with_fields" iH f fd)(B:EH mg)(AN:Fn P w K mg base "add_name" 1 [Sj,"name",Tl,"sel"] hI):NZ P w K mg base bZ 2 f fd [Sj,S7] y9:=by
 have ZZ:=PM
 walk_at "o"
 ·obtain⟨d,tf,us,ks,fs,rfl,⟨kvs,hd,hp⟩,ht,hf,L',h20,q⟩:=h;refine⟨_,af (bL (i:=2) PM.nd (aV sR (by rfl) B.dict ua (aa (pv 0) ac)))
   (af (dB h_ rfl (lP rfl B.enumerate (aa (pv 1) ac)) (dA rfl (aw (cG (i:=3) PM.nd) (aw (dA rfl (aw (cG (i:=4) PM.nd) (aw (cG (i:=5) PM.nd) bB))) bB)))
    (aj (aM (ar AN hr rfl (aa (pv 2) (aa (pv 4) (aa (pv 5) (aa (ay (aa ai (aa (pv 3) ac))) ac))))))))
   (aj (aq (pv 2)))),?_⟩
  refine⟨_,rfl,d,kvs,rfl,hd,fun d' YM=>?_⟩;generalize zz:aI H d' _=H1;have s1:=(nw YM zz).1;have e1:H1 d'=some (.dK kvs):=(nw YM zz).2;clear zz;refine⟨_,rfl,tf,rfl,⟨_,NY.of (s1 _ _ ht)⟩,?_⟩;have lf:=hf.length;refine jH (K:=K) (l:=tf) (xs:=us) (fun i σ H'=>∃v3 v4 v5:Option V,σ=[some (.ref d),some (.ref tf),some (.ref d'),v3,v4,v5]/\NV H H'/\O5 H' d' (ks++(fN fs).take i)) ⟨_,_,_,rfl,s1,kvs,e1,by simpa using bF (fun _ _ h=>h.kt (ao s1)) hp⟩ (fun i σ H' _⟨_,_,_,_,s',_⟩=>NY.of (s' _ _ ht)) ?_ ?_
  ·rintro i x σ H2 T1 hx nT ⟨v3,v4,v5,rfl,s2,n2⟩;obtain⟨y,hy,pf,rfl,U3⟩:=gq hf hx;have Md:i<fs.length:=(JV.mp hy).1;have s3:=ag (o:=.tup [.int (i:Int),.ref pf]) nT;have YI:=s2.trans s3;refine⟨T1,_,rfl,NY.of ae,rfl,_,_,rfl,_,_,rfl,⟨pf,_,rfl,NY.of (YI _ _ U3),rfl,_,_,rfl,_,_,rfl,rfl,rfl,?_⟩⟩;refine⟨_,rfl,_,rfl,_,rfl,_,rfl,N5,fun t nt=>?_⟩;have s4:=ag (o:=.tup [.str "by",.int (i:Int)]) nt;have YH:=YI.trans s4;have n4:O5 (aI (aI H2 T1 (.tup [.int (i:Int),.ref pf])) t (.tup [.str "by",.int (i:Int)])) d' (ks++(fN fs).take i):=let⟨kv2,a,b⟩:=n2;⟨kv2,(s3.trans s4) _ _ a,bF (fun _ _ h=>h.kt (ao (s3.trans s4))) b⟩;have hy':(fN fs)[i]?=some (y.1,y.2,true,i):=by rw[y8,hy];rfl
   have V8:i<(fN fs).length:=by rw[ub];exact Md
   have VZ:(fN fs).take (i+1)=(fN fs).take i++[(y.1,y.2,true,i)]:=by rw[KE,hy'];rfl
   refine⟨d',_,y.1,y.2,t,true,i,rfl,n4,ae,?_,?_,fun H5 n5 b5=>⟨_,_,_,rfl,fJ YM YH b5,?_⟩⟩
   ·intro hm;have e5:ks++fN fs=(ks++(fN fs).take i)++((y.1,y.2,true,i)::(fN fs).drop (i+1)):=by
     rw[KH]
     congr 1
     have:=(KZ i (fN fs)).symm;rw[KP V8]at this;rw[(JV.mp hy').2]at this;exact this
    rw[e5,Kb,Kd]at L';exact(LG.mp L').2.2 _ hm _ JW rfl
   ·rw[JU,J9,ub];lia
   ·rw[VZ,<-KH];exact n5
  ·rintro σ H2 ⟨v3,v4,v5,rfl,s2,n2⟩;rw[lf,<-ub,Ky]at n2;exact⟨_,rfl,q d' H2 s2 YM n2⟩
end
inductive Qc(H:Hp)(b:Bool)(n:Nat)(v:V):Prop
 |mk(q:_):v=.ref q->H q=some (.tup [.str (jX b),.int (n:Nat)])->Qc H b n v
def Qc.kt(k:N9 H H')(h:Qc H b n v):Qc H' b n v:=let⟨p,a,c⟩:=h;⟨p,a,k _ _ c⟩
def Pd(H:Hp):Ed->V->Prop
 |.num n,v=>∃p,v=.ref p/\H p=some (.tup [.str "number",.int (n:Nat)])
 |.fld j,v=>∃p,v=.ref p/\H p=some (.tup [.str "field",.int (j:Nat)])
 |.pl b n,v=>∃p u,v=.ref p/\H p=some (.tup [.str R9,u])/\Qc H b n u
 |.mk b n,v=>∃p u,v=.ref p/\H p=some (.tup [.str Sc,u])/\Qc H b n u
 |.cell e,v=>∃p u,v=.ref p/\H p=some (.tup [.str "cell",u])/\Pd H e u
 |.two o x y,v=>∃p u t,v=.ref p/\H p=some (.tup [.str o,u,t])/\Pd H x u/\Pd H y t
def Pd.kt(k:N9 H H'):∀{e:Ed}{v:V},Pd H e v->Pd H' e v
 |.num _,_,⟨p,a,b⟩=>⟨p,a,k _ _ b⟩
 |.fld _,_,⟨p,a,b⟩=>⟨p,a,k _ _ b⟩
 |.pl _ _,_,⟨p,u,a,b,c⟩=>⟨p,u,a,k _ _ b,c.kt k⟩
 |.mk _ _,_,⟨p,u,a,b,c⟩=>⟨p,u,a,k _ _ b,c.kt k⟩
 |.cell _,_,⟨p,u,a,b,c⟩=>⟨p,u,a,k _ _ b,Pd.kt k c⟩
 |.two _ _ _,_,⟨p,u,t,a,b,c,d⟩=>⟨p,u,t,a,k _ _ b,Pd.kt k c,Pd.kt k d⟩
inductive uc(ks:List Ne):Ex->Ed->Prop
 |num (n:Nat):uc ks (.num n) (.num n)
 |fld {z:Str} {b:Bool} {n:Nat}:(z,("number":Str),b,n)∈ks->uc ks (.nm z) (.fld n)
 |pl {z:Str} {b:Bool} {n:Nat}:(z,(R9:Str),b,n)∈ks->uc ks (.nm z) (.pl b n)
 |mk{z:Str}{b:Bool}{n:Nat}:(z,(Sc:Str),b,n)∈ks->uc ks (.nm z) (.mk b n)
 |cell {e:Ex} {d:Ed}:uc ks e d->uc ks (.cell e) (.cell d)
 |two {o:Str} {x y:Ex} {a b:Ed}:o∈Oi->uc ks x a->uc ks y b->uc ks (.two o x y) (.two o a b)
def qw:Ex->Nat
 |.num _=>0
 |.nm _=>0
 |.cell e=>qw e+1
 |.two _ x y=>max (qw x) (qw y)+1
inductive vG(m:Nat)(vs:TQ)(H:Hp)(Q:VK):Prop
 |mk(d ks v e ed:_):vs=[.ref d,v]->O5 H d ks->(ks.map (·.1)).Nodup->Pq H e v->uc ks e ed->qw e<=m->(∀u H',NV H H'->Pd H' ed u->Q u H')->vG m vs H Q
def pJ :Nat->Sp
 |0=>nj
 |m+1=>fun vs H Q _=>vG m vs H Q
def O5.same(h:O5 H d ks)(s:NV H H'):O5 H' d ks:=let⟨kv,a,b⟩:=h;⟨kv,s _ _ a,bF (fun _ _ h=>h.kt (ao s)) b⟩
def EJ:("number":Str)∉Oi/\("name":Str)∉Oi/\("cell":Str)∉Oi:=by decide +kernel
section
def Py:av [Sj,"e",Tl,"sel","one"] [Sj,"e"] (ak oX):=cV zk
def kK(F:Ob K "expression_of" "expression_of" oX f fd)(NK:Fn P w K mg base "need_known" 1 [Sj,"name",Tk] (cP K))(EX:Fn P w K mg base "expression_of" n [Sj,"e"] (pJ m))(hn:1<=n):NZ P w K mg base bZ (n+1) f fd [Sj,"e"] (pJ (m+1)):=by
 have ZZ:=Py
 walk_at "o"
 ·obtain⟨d,ks,v,e,ed,rfl,hN,L',hV,hE,hD,q⟩:=h;have LU:N1 1 _:=hr.mono zo;refine⟨_,af (aQ (ap aW (ax aJ (pv 1) ah) ai) (aj (aq (pv 1))) aB)
   (af (aQ (ap aW (ax aJ (pv 1) ah) ai)
    (af (gB (ar NK LU rfl (aa (pv 0) (aa (ax aJ (pv 1) ah) (aa (ay (aa ai (aa ai (aa ai ac)))) ac)))) (dA rfl (aw (cG (i:=2) Py.nd) (aw (cG (i:=3) Py.nd) bB))))
    (aj (aq (xM (ap aW (pv 2) ai) (ay (aa ai (aa (ax aJ (pv 3) ah) ac))) (ay (aa (pv 2) (aa (pv 3) ac))))))) aB)
   (af (aQ (ap aW (ax aJ (pv 1) ah) ai) (aj (aq (ay (aa ai (aa (ar EX hr rfl (aa (pv 0) (aa (ax aJ (pv 1) ah) ac))) ac))))) aB)
   (af (bL (i:=4) Py.nd (ar EX hr rfl (aa (pv 0) (aa (ax aJ (pv 1) ah) ac))))
   (aj (aq (ay (aa (ax aJ (pv 1) ah) (aa (pv 4) (aa (ar EX hr rfl (aa (pv 0) (aa (ax aJ (pv 1) ah) ac))) ac))))))))),?_⟩
  have nnum:∀z:Str,z≠"number"->decide (V.str z=V.str "number")=false:=fun z h=>d_ fun e=>h (V.str.inj e);cases hE with
  |num i=>
   obtain⟨p,rfl,hp⟩:=hV;refine⟨_,rfl,p,_,_,_,rfl,rfl,NY.of hp,bu,rfl,_,rfl,bD (b_ rfl) ⟨_,rfl,q _ _ (NV.refl _) ⟨p,rfl,hp⟩⟩⟩
  |@fld z b i hm=>
   obtain⟨p,rfl,hp⟩:=hV;walk_at "q";walk_at "s";refine⟨_,rfl,_,rfl,p,_,_,_,rfl,rfl,NY.of hp,cI,N5,fun t nt=>?_⟩;have s1:=ag (o:=.tup [.str R9,.str Sc,.str "number"]) nt;refine⟨d,ks,z,"number",t,[R9,Sc,"number"],b,i,rfl,hN.same s1,hm,L',.inr (NY.of ae),zk,fun t2 sq H2 s2 e2 e3=>?_⟩;refine⟨t2,_,rfl,NY.of e2,rfl,_,_,rfl,_,_,rfl,rfl,?_⟩;refine⟨_,rfl,rfl,_,rfl,bD (b_ rfl) ⟨_,rfl,sq,_,_,_,rfl,rfl,NY.of e3,cI,N5,fun p4 n4=>?_⟩⟩;exact q _ _ ((s1.trans s2).trans (ag n4)) ⟨p4,rfl,ae⟩
  |@pl z b i hm=>
   obtain⟨p,rfl,hp⟩:=hV;walk_at "q";walk_at "s";refine⟨_,rfl,_,rfl,p,_,_,_,rfl,rfl,NY.of hp,cI,N5,fun t nt=>?_⟩;have s1:=ag (o:=.tup [.str R9,.str Sc,.str "number"]) nt;refine⟨d,ks,z,R9,t,[R9,Sc,"number"],b,i,rfl,hN.same s1,hm,L',.inr (NY.of ae),zk,fun t2 sq H2 s2 e2 e3=>?_⟩;refine⟨t2,_,rfl,NY.of e2,rfl,_,_,rfl,_,_,rfl,rfl,?_⟩;refine⟨_,rfl,rfl,_,rfl,be zk ⟨_,rfl,_,rfl,N5,fun p4 n4=>?_⟩⟩;have s4:=ag (o:=.tup [.str R9,.ref sq]) n4;exact q _ _ ((s1.trans s2).trans s4) ⟨p4,.ref sq,rfl,ae,sq,rfl,s4 _ _ e3⟩
  |@mk z b i hm=>
   obtain⟨p,rfl,hp⟩:=hV;walk_at "q";walk_at "s";refine⟨_,rfl,_,rfl,p,_,_,_,rfl,rfl,NY.of hp,cI,N5,fun t nt=>?_⟩;have s1:=ag (o:=.tup [.str R9,.str Sc,.str "number"]) nt;refine⟨d,ks,z,Sc,t,[R9,Sc,"number"],b,i,rfl,hN.same s1,hm,L',.inr (NY.of ae),zk,fun t2 sq H2 s2 e2 e3=>?_⟩;refine⟨t2,_,rfl,NY.of e2,rfl,_,_,rfl,_,_,rfl,rfl,?_⟩;refine⟨_,rfl,rfl,_,rfl,be zk ⟨_,rfl,_,rfl,N5,fun p4 n4=>?_⟩⟩;have s4:=ag (o:=.tup [.str Sc,.ref sq]) n4;exact q _ _ ((s1.trans s2).trans s4) ⟨p4,.ref sq,rfl,ae,sq,rfl,s4 _ _ e3⟩
  |@cell e1 d1 h1=>
   obtain⟨p,u,rfl,hp,hu⟩:=hV;walk_at "q";walk_at "q";walk_at "s";cases m with
   |zero=>simp[qw]at hD
   |succ m=>
    refine⟨_,rfl,_,rfl,p,_,_,_,rfl,rfl,NY.of hp,cI,d,ks,u,e1,d1,rfl,hN,L',hu,h1,by simp[qw]at hD;lia,fun u2 H2 s2 v2=>⟨N5,fun p4 n4=>?_⟩⟩;have s4:=ag (o:=.tup [.str "cell",u2]) n4;exact q _ _ (s2.trans s4) ⟨p4,u2,rfl,ae,v2.kt (ao s4)⟩
  |@two o x y a b ho hx hy=>
   obtain⟨p,u,t,rfl,hp,hu,ht⟩:=hV;obtain⟨o1,o2,o3⟩:=EJ;refine⟨_,rfl,p,_,_,_,rfl,rfl,NY.of hp,bu,rfl,_,rfl,be (d_ fun e=>o1 (V.str.inj e▸ho)) ?_⟩;refine⟨_,rfl,p,_,_,_,rfl,rfl,NY.of hp,bu,rfl,_,rfl,be (d_ fun e=>o2 (V.str.inj e▸ho)) ?_⟩;refine⟨_,rfl,p,_,_,_,rfl,rfl,NY.of hp,bu,rfl,_,rfl,be (d_ fun e=>o3 (V.str.inj e▸ho)) ?_⟩;cases m with
   |zero=>simp[qw]at hD
   |succ m=>
    have Vq:qw x<=m/\qw y<=m:=by
     simp only[qw]at hD;lia
    refine⟨_,rfl,_,rfl,p,_,_,_,rfl,rfl,NY.of hp,cI,d,ks,u,x,a,rfl,hN,L',hu,hx,Vq.1,fun u2 H2 s2 v2=>?_⟩;refine⟨_,rfl,p,_,_,_,rfl,rfl,NY.of (s2 _ _ hp),bu,_,rfl,_,rfl,_,rfl,p,_,_,_,rfl,rfl,NY.of (s2 _ _ hp),jU,d,ks,t,y,b,rfl,hN.same s2,L',ht.kt (ao s2),hy,Vq.2,fun u3 H3 s3 v3=>⟨N5,fun p4 n4=>?_⟩⟩;have s4:=ag (o:=.tup [.str o,u2,u3]) n4;exact q _ _ ((s2.trans s3).trans s4) ⟨p4,u2,u3,rfl,ae,v2.kt (ao (s3.trans s4)),v3.kt (ao s4)⟩
end
def Ou(H:Hp)(g:Sd)(v:V):Prop:=match g with
 |.cell a e=>∃p u t,v=.ref p/\H p=some (.tup [.str "cell",u,t])/\Pd H a u/\Pd H e t
 |.pl b n e=>∃p u t,v=.ref p/\H p=some (.tup [.str R9,u,t])/\Qc H b n u/\Pd H e t
 |.mk b n e=>∃p u t,v=.ref p/\H p=some (.tup [.str Sc,u,t])/\Qc H b n u/\Pd H e t
def Ou.kt(k:N9 H H'):∀{g:Sd}{v:V},Ou H g v->Ou H' g v
 |.cell _ _,_,⟨p,u,t,a,b,c,d⟩=>⟨p,u,t,a,k _ _ b,c.kt k,d.kt k⟩
 |.pl _ _ _,_,⟨p,u,t,a,b,c,d⟩=>⟨p,u,t,a,k _ _ b,c.kt k,d.kt k⟩
 |.mk _ _ _,_,⟨p,u,t,a,b,c,d⟩=>⟨p,u,t,a,k _ _ b,c.kt k,d.kt k⟩
inductive EK(ks:List Ne):Gs->Sd->Prop
 |cell {a e:Ex} {x y:Ed}:uc ks a x->uc ks e y->EK ks (.cell a e) (.cell x y)
 |pl {z:Str} {b:Bool} {n:Nat} {e:Ex} {y:Ed}:(z,(R9:Str),b,n)∈ks->uc ks e y->EK ks (.nm z e) (.pl b n y)
 |mk{z:Str}{b:Bool}{n:Nat}{e:Ex}{y:Ed}:(z,(Sc:Str),b,n)∈ks->uc ks e y->EK ks (.nm z e) (.mk b n y)
def GX:Gs->Nat
 |.cell a e=>max (qw a) (qw e)
 |.nm _ e=>qw e
def QP(H:Hp)(e:Ee)(v:V):Prop:=match e with
 |.w0 s=>∃p,v=.ref p/\H p=some (.tup [.str s])
 |.fault z=>∃p,v=.ref p/\H p=some (.tup [.str Sk,.str z])
 |.go s j=>∃p,v=.ref p/\H p=some (.tup [.str s,.int (j:Nat)])
def QP.kt(k:N9 H H'):∀{g:Ee}{v:V},QP H g v->QP H' g v
 |.w0 _,_,⟨p,a,b⟩=>⟨p,a,k _ _ b⟩
 |.fault _,_,⟨p,a,b⟩=>⟨p,a,k _ _ b⟩
 |.go _ _,_,⟨p,a,b⟩=>⟨p,a,k _ _ b⟩
inductive Ga(ks:List Ne):En->Ee->Prop
 |w0 {s:Str}:s∈([SJ,SK,SN]:TH)->Ga ks (.w0 s) (.w0 s)
 |fault (z:Str):Ga ks (.w1 Sk z) (.fault z)
 |go {s z:Str} {b:Bool} {n:Nat}:s∈([S5,Su]:TH)->(z,(S2:Str),b,n)∈ks->Ga ks (.w1 s z) (.go s n)
def GY:Tt->Str
 |.top _ _=>S3
 |.pl _ _=>R9
 |.mk _ _=>Sc
def Dx:Tt->Bool×Nat
 |.top b n=>(b,n)
 |.pl b n=>(b,n)
 |.mk b n=>(b,n)
inductive QQ(H:Hp)(t:Tt)(v:V):Prop
 |mk(p u:_):v=.ref p->H p=some (.tup [.str (GY t),u])->Qc H (Dx t).1 (Dx t).2 u->QQ H t v
def QQ.kt(k:N9 H H')(h:QQ H g v):QQ H' g v:=by obtain⟨p,u,a,b,c⟩:=h;exact ⟨p,u,a,k _ _ b,c.kt k⟩
inductive Gb(ks:List Ne):Bool->Str->Tt->Prop
 |top {z:Str} {b:Bool} {n:Nat}:(z,(R9:Str),b,n)∈ks->Gb ks true z (.top b n)
 |pl {z:Str} {b:Bool} {n:Nat}:(z,(R9:Str),b,n)∈ks->Gb ks false z (.pl b n)
 |mk{z:Str}{b:Bool}{n:Nat}:(z,(Sc:Str),b,n)∈ks->Gb ks false z (.mk b n)
def Pp(H:Hp):Dd->V->Prop
 |.leaf s e,v=>∃p q us u,v=.ref p/\H p=some (.tup [.str "leaf",.ref q,u])/\H q=some (.tup us)/\Paired (fun v g=>Ou H g v) us s/\QP H e u
 |.ite t y n,v=>∃p u a b,v=.ref p/\H p=some (.tup [.str Tn,u,a,b])/\QQ H t u/\Pp H y a/\Pp H n b
def Pp.kt(k:N9 H H'):∀{b:Dd}{v:V},Pp H b v->Pp H' b v
 |.leaf _ _,_,⟨p,q,us,u,a,b,c,d,e⟩=>⟨p,q,us,u,a,k _ _ b,k _ _ c,bF (fun _ _ h=>Ou.kt k h) d,QP.kt k e⟩
 |.ite _ _ _,_,⟨p,u,x,y,a,b,c,d,e⟩=>⟨p,u,x,y,a,k _ _ b,c.kt k,Pp.kt k d,Pp.kt k e⟩
inductive EL(ks:List Ne):Bd->Dd->Prop
 |leaf {s:List Gs} {s':List Sd} {e:En} {e':Ee}:Paired (EK ks) s s'->Ga ks e e'->EL ks (.leaf s e) (.leaf s' e')
 |ite {t:Bool} {z:Str} {t':Tt} {y n:Bd} {y' n':Dd}:Gb ks t z t'->EL ks y y'->EL ks n n'->EL ks (.ite t z y n) (.ite t' y' n')
def Bg:Bd->Nat
 |.leaf _ _=>0
 |.ite _ _ y n=>max (Bg y) (Bg n)+1
def rG(m:Nat):Bd->Prop
 |.leaf s _=>(∀g∈s,GX g<=m)/\s.length<=4
 |.ite _ _ y n=>rG m y/\rG m n
inductive pL(m:Nat)(vs:TQ)(H:Hp)(Q:VK)(Z3:XK):Prop
 |mk(d ks v g g':_):vs=[.ref d,v]->O5 H d ks->(ks.map (·.1)).Nodup->Pk H g v->EK ks g g'->GX g<=m->(∀u H',NV H H'->Ou H' g' u->Q u H')->pL m vs H Q Z3
inductive mq(vs:TQ)(H:Hp)(Q:VK)(Z3:XK):Prop
 |mk(d ks v t z t':_):vs=[.ref d,v]->O5 H d ks->(ks.map (·.1)).Nodup->Pe H t z v->Gb ks t z t'->(∀u H',NV H H'->QQ H' t' u->Q u H')->mq vs H Q Z3
inductive mr(vs:TQ)(H:Hp)(Q:VK)(Z3:XK):Prop
 |mk(d ks v e e':_):vs=[.ref d,v]->O5 H d ks->(ks.map (·.1)).Nodup->QV H e v->Ga ks e e'->(∀u H',NV H H'->QP H' e' u->Q u H')->mr vs H Q Z3
inductive n0(m0:Nat)(m:Nat)(vs:TQ)(H:Hp)(Q:VK):Prop
 |mk(d ks v b b':_):vs=[.ref d,v]->O5 H d ks->(ks.map (·.1)).Nodup->Qp H b v->EL ks b b'->Bg b<=m->rG m0 b->(∀u H',NV H H'->Pp H' b' u->Q u H')->n0 m0 m vs H Q
def ji(m0:Nat):Nat->Sp
 |0=>nj
 |m+1=>fun vs H Q _=>n0 m0 m vs H Q
section
def OB:av [Sj,Tf,Tl,"target",SA,"address","sel"] [Sj,Tf] (ak sU):=cV zk
def za(F:Ob K "set_of" "set_of" sU f fd)(NK:Fn P w K mg base "need_known" 1 [Sj,"name",Tk] (cP K))(EX:Fn P w K mg base "expression_of" n [Sj,"e"] (pJ (m+1)))(hn:1<=n):NZ P w K mg base bZ (n+1) f fd [Sj,Tf] (pL m):=by
 have ZZ:=OB
 walk_at "o"
 ·obtain⟨d,ks,v,g,g',rfl,hN,L',hV,hG,hD,q⟩:=h;have LU:N1 1 _:=hr.mono zo;refine⟨_,af (gB (pv 1) (dA rfl (aw (cG (i:=2) OB.nd) (aw (cG (i:=3) OB.nd) (aw (cG (i:=4) OB.nd) bB)))))
   (af (aQ (ap aW (pv 2) ai)
    (af (bL (i:=5) OB.nd (ar EX hr rfl (aa (pv 0) (aa (pv 3) ac))))
    (aj (aq (ay (aa ai (aa (pv 5) (aa (ar EX hr rfl (aa (pv 0) (aa (pv 4) ac))) ac))))))) aB)
   (af (gB (ar NK LU rfl (aa (pv 0) (aa (pv 3) (aa (ay (aa ai (aa ai ac))) ac)))) (dA rfl (aw (cG (i:=2) OB.nd) (aw (cG (i:=6) OB.nd) bB))))
   (aj (aq (ay (aa (pv 2) (aa (pv 6) (aa (ar EX hr rfl (aa (pv 0) (aa (pv 4) ac))) ac)))))))),?_⟩
  cases hG with
  |@cell a e x y ha he=>
   obtain⟨p,u,t,rfl,hp,hu,ht⟩:=hV;have Vq:qw a<=m/\qw e<=m:=by
    simp only[GX]at hD;lia
   refine⟨_,rfl,p,_,rfl,NY.of hp,rfl,_,_,rfl,_,_,rfl,_,_,rfl,rfl,?_⟩;refine⟨_,rfl,rfl,_,rfl,bD (b_ rfl) ?_⟩;refine⟨_,rfl,_,rfl,d,ks,u,a,x,rfl,hN,L',hu,ha,Vq.1,fun u2 H2 s2 v2=>?_⟩;refine⟨_,rfl,_,rfl,_,rfl,d,ks,t,e,y,rfl,hN.same s2,L',ht.kt (ao s2),he,Vq.2,fun u3 H3 s3 v3=>⟨N5,fun p4 n4=>?_⟩⟩;have s4:=ag (o:=.tup [.str "cell",u2,u3]) n4;exact q _ _ ((s2.trans s3).trans s4) ⟨p4,u2,u3,rfl,ae,v2.kt (ao (s3.trans s4)),v3.kt (ao s4)⟩
  |@pl z b i e y hm he=>
   obtain⟨p,t,rfl,hp,ht⟩:=hV;refine⟨_,rfl,p,_,rfl,NY.of hp,rfl,_,_,rfl,_,_,rfl,_,_,rfl,rfl,?_⟩;refine⟨_,rfl,rfl,_,rfl,be zk ?_⟩;refine⟨_,rfl,_,rfl,N5,fun t1 nt=>?_⟩;have s1:=ag (o:=.tup [.str R9,.str Sc]) nt;refine⟨d,ks,z,R9,t1,[R9,Sc],b,i,rfl,hN.same s1,hm,L',.inr (NY.of ae),zk,fun t2 sq H2 s2 e2 e3=>?_⟩;have Mc:=s1.trans s2;refine⟨t2,_,rfl,NY.of e2,rfl,_,_,rfl,_,_,rfl,rfl,?_⟩;refine⟨_,rfl,_,rfl,_,rfl,_,rfl,d,ks,t,e,y,rfl,hN.same Mc,L',ht.kt (ao Mc),he,hD,fun u3 H3 s3 v3=>⟨N5,fun p4 n4=>?_⟩⟩;have s4:=ag (o:=.tup [.str R9,.ref sq,u3]) n4;exact q _ _ ((Mc.trans s3).trans s4) ⟨p4,_,u3,rfl,ae,⟨sq,rfl,s4 _ _ (s3 _ _ e3)⟩,v3.kt (ao s4)⟩
  |@mk z b i e y hm he=>
   obtain⟨p,t,rfl,hp,ht⟩:=hV;refine⟨_,rfl,p,_,rfl,NY.of hp,rfl,_,_,rfl,_,_,rfl,_,_,rfl,rfl,?_⟩;refine⟨_,rfl,rfl,_,rfl,be zk ?_⟩;refine⟨_,rfl,_,rfl,N5,fun t1 nt=>?_⟩;have s1:=ag (o:=.tup [.str R9,.str Sc]) nt;refine⟨d,ks,z,Sc,t1,[R9,Sc],b,i,rfl,hN.same s1,hm,L',.inr (NY.of ae),zk,fun t2 sq H2 s2 e2 e3=>?_⟩;have Mc:=s1.trans s2;refine⟨t2,_,rfl,NY.of e2,rfl,_,_,rfl,_,_,rfl,rfl,?_⟩;refine⟨_,rfl,_,rfl,_,rfl,_,rfl,d,ks,t,e,y,rfl,hN.same Mc,L',ht.kt (ao Mc),he,hD,fun u3 H3 s3 v3=>⟨N5,fun p4 n4=>?_⟩⟩;have s4:=ag (o:=.tup [.str Sc,.ref sq,u3]) n4;exact q _ _ ((Mc.trans s3).trans s4) ⟨p4,_,u3,rfl,ae,⟨sq,rfl,s4 _ _ (s3 _ _ e3)⟩,v3.kt (ao s4)⟩
def Pg:av [Sj,"test",SA,"name"] [Sj,"test"] (ak oW):=cV zk
def wW(F:Ob K "test_of" "test_of" oW f fd)(NK:Fn P w K mg base "need_known" 1 [Sj,"name",Tk] (cP K)):NZ P w K mg base bZ 2 f fd [Sj,"test"] mq:=by
 have ZZ:=Pg
 walk_at "o"
 ·obtain⟨d,ks,v,t,z,t',rfl,hN,L',⟨p,rfl,hp⟩,hG,q⟩:=h;refine⟨_,af (gB (pv 1) (dA rfl (aw (cG (i:=2) Pg.nd) (aw (cG (i:=3) Pg.nd) bB))))
   (af (aQ (ap aW (pv 2) ai) (aj (aq (ay (aa ai (aa (ax aJ (ar NK hr rfl (aa (pv 0) (aa (pv 3) (aa (ay (aa ai ac)) ac)))) ah) ac))))) aB)
   (aj (aq (ar NK hr rfl (aa (pv 0) (aa (pv 3) (aa (ay (aa ai (aa ai ac))) ac))))))),?_⟩
  refine⟨_,rfl,p,_,rfl,NY.of hp,rfl,_,_,rfl,_,_,rfl,rfl,?_⟩;cases hG with
  |@top _ b i hm=>
   refine⟨_,rfl,rfl,_,rfl,bD (b_ rfl) ?_⟩;refine⟨_,rfl,_,rfl,N5,fun t1 nt=>?_⟩;have s1:=ag (o:=.tup [.str R9]) nt;refine⟨d,ks,z,R9,t1,[R9],b,i,rfl,hN.same s1,hm,L',.inr (NY.of ae),JW,fun t2 sq H2 s2 e2 e3=>?_⟩;refine⟨t2,_,_,_,rfl,rfl,NY.of e2,cI,N5,fun p4 n4=>?_⟩;have s4:=ag (o:=.tup [.str S3,.ref sq]) n4;exact q _ _ ((s1.trans s2).trans s4) ⟨p4,_,rfl,ae,sq,rfl,s4 _ _ e3⟩
  |@pl _ b i hm=>
   refine⟨_,rfl,rfl,_,rfl,be zk ?_⟩;refine⟨_,rfl,_,rfl,N5,fun t1 nt=>?_⟩;have s1:=ag (o:=.tup [.str R9,.str Sc]) nt;refine⟨d,ks,z,R9,t1,[R9,Sc],b,i,rfl,hN.same s1,hm,L',.inr (NY.of ae),zk,fun t2 sq H2 s2 e2 e3=>?_⟩;exact q _ _ (s1.trans s2) ⟨t2,_,rfl,e2,sq,rfl,e3⟩
  |@mk _ b i hm=>
   refine⟨_,rfl,rfl,_,rfl,be zk ?_⟩;refine⟨_,rfl,_,rfl,N5,fun t1 nt=>?_⟩;have s1:=ag (o:=.tup [.str R9,.str Sc]) nt;refine⟨d,ks,z,Sc,t1,[R9,Sc],b,i,rfl,hN.same s1,hm,L',.inr (NY.of ae),zk,fun t2 sq H2 s2 e2 e3=>?_⟩;exact q _ _ (s1.trans s2) ⟨t2,_,rfl,e2,sq,rfl,e3⟩
def zb:av [Sj,"end"] [Sj,"end"] (ak sV):=cV zk
def wX(F:Ob K "end_of" "end_of" sV f fd)(NK:Fn P w K mg base "need_known" 1 [Sj,"name",Tk] (cP K)):NZ P w K mg base bZ 2 f fd [Sj,"end"] mr:=by
 have ZZ:=zb
 walk_at "o"
 ·obtain⟨d,ks,v,e,e',rfl,hN,L',⟨p,rfl,hp⟩,hG,q⟩:=h;refine⟨_,af (aQ (ap eI (ax aJ (pv 1) ah) (ay (aa ai (aa ai ac))) rfl) (aj (aq (ay (aa (ax aJ (pv 1) ah) (aa (ax aJ (ax aJ (ar NK hr rfl (aa (pv 0) (aa (ax aJ (pv 1) ah) (aa (ay (aa ai ac)) ac)))) ah) ah) ac))))) aB)
   (aj (aq (pv 1))),?_⟩
  have Zk:∀z:Str,ky (.str z) [.str S5,.str Su]=([S5,Su]:TH).contains z:=fun z=>dR z [S5,Su];cases hG with
  |@w0 s hs=>
   have TU:H p=some (.tup [.str s]):=hp;refine⟨_,rfl,p,_,_,_,rfl,rfl,NY.of TU,bu,N5,fun t1 nt=>?_⟩;have s1:=ag (o:=.tup [.str S5,.str Su]) nt;refine⟨t1,_,rfl,.inr (NY.of ae),rfl,rfl,_,rfl,be ?_ ⟨_,rfl,q _ _ s1 ⟨p,rfl,s1 _ _ TU⟩⟩⟩;show ky (.str s) [.str S5,.str Su]=false;rw[Zk];simp only[J0,Kc,l_]at hs;rcases hs with rfl|rfl|rfl<;>decide +kernel
  |fault z=>
   have TU:H p=some (.tup [.str Sk,.str z]):=hp;refine⟨_,rfl,p,_,_,_,rfl,rfl,NY.of TU,bu,N5,fun t1 nt=>?_⟩;have s1:=ag (o:=.tup [.str S5,.str Su]) nt;refine⟨t1,_,rfl,.inr (NY.of ae),rfl,rfl,_,rfl,be ?_ ⟨_,rfl,q _ _ s1 ⟨p,rfl,s1 _ _ TU⟩⟩⟩;show ky (.str Sk) [.str S5,.str Su]=false;decide +kernel
  |@go s z b i hs hm=>
   have TU:H p=some (.tup [.str s,.str z]):=hp;refine⟨_,rfl,p,_,_,_,rfl,rfl,NY.of TU,bu,N5,fun t1 nt=>?_⟩;have s1:=ag (o:=.tup [.str S5,.str Su]) nt;refine⟨t1,_,rfl,.inr (NY.of ae),rfl,rfl,_,rfl,bD ?_ ?_⟩
   ·show ky (.str s) [.str S5,.str Su]=true;rw[Zk];exact KM.mpr hs
   generalize aI H t1 (.tup [V.str S5,.str Su])=H1 at*;refine⟨_,rfl,p,_,_,_,rfl,rfl,NY.of (s1 _ _ TU),bu,_,rfl,_,rfl,p,_,_,_,rfl,rfl,NY.of (s1 _ _ TU),cI,N5,fun t2 nt2=>?_⟩;have s2:=ag (o:=.tup [.str S2]) nt2;refine⟨d,ks,z,S2,t2,[S2],b,i,rfl,hN.same (s1.trans s2),hm,L',.inr (NY.of ae),JW,fun t3 sq H3 s3 e2 e3=>?_⟩;refine⟨t3,_,_,_,rfl,rfl,NY.of e2,cI,sq,_,_,_,rfl,rfl,NY.of e3,cI,N5,fun p4 n4=>?_⟩;exact q _ _ (((s1.trans s2).trans s3).trans (ag n4)) ⟨p4,rfl,ae⟩
def ON:av [Sj,Tq,"test","yes","sets"] [Sj,Tq] (ak kF):=cV zk
def JI:([Tf,Sj]:TH).Nodup:=by decide +kernel
def hZ(F:Ob K "deed_of" "deed_of" kF f fd)(B:Bl mg)(TO:Fn P w K mg base "test_of" 2 [Sj,"test"] mq)(EO:Fn P w K mg base "end_of" 2 [Sj,"end"] mr)(SO:Fn P w K mg base "set_of" n [Sj,Tf] (pL m0))(DO:Fn P w K mg base "deed_of" n [Sj,Tq] (ji m0 m))(hn:2<=n):NZ P w K mg base bZ (n+1) f fd [Sj,Tq] (ji m0 (m+1)):=by
 have ZZ:=ON
 walk_at "o"
 ·obtain⟨d,ks,v,b,b',rfl,hN,L',hV,hG,hD,hS,q⟩:=h;have LV:N1 2 _:=hr.mono zo;refine⟨_,af (aQ (ap aW (ax aJ (pv 1) ah) ai)
    (af (bL (i:=2) ON.nd (ar TO LV rfl (aa (pv 0) (aa (ax aJ (pv 1) ah) ac))))
    (af (bL (i:=3) ON.nd (ar DO hr rfl (aa (pv 0) (aa (ax aJ (pv 1) ah) ac))))
    (aj (aq (ay (aa ai (aa (pv 2) (aa (pv 3) (aa (ar DO hr rfl (aa (pv 0) (aa (ax aJ (pv 1) ah) ac))) ac))))))))) aB)
   (af (bL (i:=4) ON.nd (aV bh (by rfl) B.tuple br (aa (dQ (N':=[Tf,Sj]) (ix:=[none,some 0]) (sc0:=ak kF) (N:=[Sj,Tq,"test","yes","sets"]) rfl zk (iz (ax aJ (pv 1) ah))
     (fun C' cl s H fp=>cG (i:=0) JI) (fun _ _ _ _ _=>dM) (fun C' cl s H fp=>ar SO hr rfl (aa (pv 1) (aa (pv 0) ac)))) ac)))
   (aj (aq (ay (aa ai (aa (pv 4) (aa (ar EO LV rfl (aa (pv 0) (aa (ax aJ (pv 1) ah) ac))) ac))))))),?_⟩
  cases hG with
  |@ite t z t' y n' y' n'' ht hy UR=>
   obtain⟨p,u,a,bb,rfl,hp,hu,ha,hb⟩:=hV;cases m with
   |zero=>simp[Bg]at hD
   |succ m=>
    have Vq:Bg y<=m/\Bg n'<=m:=by
     simp only[Bg]at hD;lia
    walk_at "s";refine⟨_,rfl,_,rfl,p,_,_,_,rfl,rfl,NY.of hp,cI,d,ks,u,t,z,t',rfl,hN,L',hu,ht,fun u1 H1 s1 v1=>?_⟩;refine⟨_,rfl,_,rfl,p,_,_,_,rfl,rfl,NY.of (s1 _ _ hp),jU,d,ks,a,y,y',rfl,hN.same s1,L',ha.kt (ao s1),hy,Vq.1,hS.1,fun u2 H2 s2 v2=>?_⟩;have Mc:=s1.trans s2;refine⟨_,rfl,_,rfl,_,rfl,_,rfl,p,_,_,_,rfl,rfl,NY.of (Mc _ _ hp),GW,d,ks,bb,n',n'',rfl,hN.same Mc,L',hb.kt (ao Mc),UR,Vq.2,hS.2,fun u3 H3 s3 v3=>⟨N5,fun p4 n4=>?_⟩⟩;have s4:=ag (o:=.tup [.str Tn,u1,u2,u3]) n4;exact q _ _ ((Mc.trans s3).trans s4) ⟨p4,u1,u2,u3,rfl,ae,v1.kt (ao (s2.trans (s3.trans s4))),v2.kt (ao (s3.trans s4)),v3.kt (ao s4)⟩
  |@leaf s s' e e' hs he=>
   obtain⟨p,qs,us,u,rfl,hp,hq,L9,hu⟩:=hV;walk_at "w"
   walk_at "q";refine⟨_,rfl,p,_,_,_,rfl,rfl,NY.of hp,cI,qs,rfl,⟨_,NY.of hq⟩,?_⟩;have l1:=L9.length;have l2:=hs.length;have l4:=hS.2;refine sQ (K:=K) (a:=qs) (xs:=us) (fun i ys H'=>NV H H'/\ys.length=i/\i<=us.length/\Paired (fun v g=>Ou H' g v) ys (s'.take i)) ⟨NV.refl _,rfl,KO _,.nil⟩ (fun i ys H' hi⟨a1,a2,a3,_⟩=>⟨NY.of (a1 _ _ hq),zo⟩) ?_ ?_
   ·rintro i x ys H1 hx ⟨s1,ly,hi,hys⟩;obtain⟨g,hg,W0⟩:=gq L9 hx;obtain⟨g',UN,Y9⟩:=gq hs hg;have Md:=(JV.mp hx).1;refine⟨⟨rfl,trivial⟩,dN ?_⟩;refine⟨_,rfl,_,rfl,d,ks,x,g,g',rfl,hN.same s1,L',W0.kt (ao s1),Y9,hS.1 g (Kg hg),fun u2 H2 s2 v2=>?_⟩;refine Nx.mk Md ⟨s1.trans s2,by rw[JU,ly];rfl,Md,?_⟩;rw[KE,UN];exact gO (R:=fun v g=>Ou H2 g v) v2 (bF (R:=fun v g=>Ou H1 g v) (fun _ _ h=>h.kt (ao s2)) hys)
   ·rintro ys H1 ⟨s1,ly,_,hys⟩ lq Xm;rw[show us.length=s'.length by lia,Ky]at hys;generalize zz:aI H1 lq _=H2;have s2:=(nw Xm zz).1;have e2:H2 lq=some (.lst ys):=(nw Xm zz).2;clear zz;refine⟨lq,_,rfl,.inl ⟨N0.of e2,fun t nt=>?_⟩⟩;generalize zz:aI H2 t _=H3;have s3:=(nw nt zz).1;have e3:H3 t=some (.tup ys):=(nw nt zz).2;clear zz;have WS:=(s1.trans s2).trans s3;refine⟨_,rfl,_,rfl,_,rfl,p,_,_,_,rfl,rfl,NY.of (WS _ _ hp),jU,d,ks,u,e,e',rfl,hN.same WS,L',hu.kt (ao WS),he,fun u4 H4 s4 v4=>⟨N5,fun p5 n5=>?_⟩⟩;have s5:=ag (o:=.tup [.str "leaf",.ref t,u4]) n5;exact q _ _ ((WS.trans s4).trans s5) ⟨p5,t,ys,u4,rfl,ae,s5 _ _ (s4 _ _ e3),bF (R:=fun v g=>Ou H1 g v) (fun _ _ h=>h.kt (ao (s2.trans (s3.trans (s4.trans s5))))) hys,v4.kt (ao s5)⟩
end
def vI(zs:TH):List (dv×V):=zs.map fun z=>(Sum.inr z,.bl true)
def Dy:∀{zs:TH}{z:Str},z∉zs->bx (vI zs) (Sum.inr z)=none
 |[],_,_=>qU
 |x::zs,z,h=>by
  unfold vI;rw[Kd,cg]
  ·exact Dy (fun m=>h (JZ _ m))
  ·intro e;exact h (by rw[<-RR e];exact JW)
inductive OI(H:Hp)(u:V)(x:Kn):Prop
 |mk(p tf b us:_):u=.ref p->H p=some (.tup [.str x.name,.ref tf,b])->H tf=some (.tup us)->Paired (Oh H) us x.fs->Pp H x.dd b->OI H u x
def OI.kt(k:N9 H H')(h:OI H u x):OI H' u x:=by obtain⟨p,tf,b,us,a,c,d,e,f⟩:=h;exact ⟨p,tf,b,us,a,k _ _ c,k _ _ d,bF (fun _ _ h=>h.kt k) e,f.kt k⟩
structure EM(ks:List Ne)(x:Kn):Prop where
 nd:((ks++fN x.fs).map (·.1)).Nodup
 l3:x.fs.length<=3
 bn:EL (ks++fN x.fs) x.bd x.dd
 b3:Bg x.bd<=3
 s3:rG 3 x.bd
inductive EQ(vs:TQ)(H:Hp)(Q:VK)(Z3:XK):Prop
 |mk(d tk us ks LZ:_):vs=[.ref d,.ref tk]->O5 H d ks->H tk=some (.tup us)->Paired (OQ H) us LZ->(LZ.map Kn.name).Nodup->(∀x∈LZ,EM ks x)->ks.length<=10->LZ.length<=8->(∀p UP H',NV H H'->H p=none->H' p=some (.tup UP)->Paired (OI H') UP LZ->Q (.ref p) H')->EQ vs H Q Z3
structure NI(H:Hp)(LZ:List Kn)(ln lt:Ts)(i:Nat)(H':Hp):Prop where
 sm:NV H H'
 n1:H ln=none
 n2:H lt=none
 ne:ln≠lt
 ls:∃us,H' ln=some (.lst us)/\us.length=i/\Paired (OI H') us (LZ.take i)
 tk:H' lt=some (.dK (vI ((LZ.take i).map Kn.name)))
section
def P2:av [Sj,SC,"named","taken","name",S7,Tq,"deed"] [Sj,SC] (ak gK):=cV zk
def GZ(F:Ob K "kinds_named" "kinds_named" gK f fd)(B:Bl mg)(NW:Fn P w K mg base "names_with_fields" 2 [Sj,S7] y9)(DO:Fn P w K mg base "deed_of" n [Sj,Tq] (ji 3 4))(hn:2<=n):NZ P w K mg base bZ (n+1) f fd [Sj,SC] EQ:=by
 have ZZ:=P2
 walk_at "o"
 ·obtain⟨d,tk,us,ks,LZ,rfl,hN,ht,hk,L',U9,h10,h8,q⟩:=h;have hu:=eY hr;have LV:N1 2 _:=hr.mono zo;walk_at "w"
  refine⟨_,af (bL (i:=2) P2.nd (aT ac))
   (af (bL (i:=3) P2.nd rl)
   (af (dB h_ rfl (iz (pv 1)) (dA rfl (aw (cG (i:=4) P2.nd) (aw (cG (i:=5) P2.nd) (aw (cG (i:=6) P2.nd) bB))))
    (af (aQ (lB (yw hu (pv 4) (pv 3))) (aj da) aB)
    (af (gW hu (pv 3) (pv 4) fw rfl)
    (af (bL (i:=7) P2.nd (ar DO hr rfl (aa (ar NW LV rfl (aa (pv 0) (aa (pv 5) ac))) (aa (pv 6) ac))))
    (aj (aM (cu Kp Kk Kj bz (pv 2) (aa (ay (aa (pv 4) (aa (pv 5) (aa (pv 7) ac)))) ac))))))))
   (aj (aq (aV bh (by rfl) B.tuple br (aa (pv 2) ac)))))),?_⟩
  have lk:=hk.length;refine⟨N5,fun ln n1=>?_⟩;generalize zz:aI H ln _=H1;have⟨s1,e1⟩:=nw n1 zz;clear zz;refine fun lt n2=>?_;have s2:=ag (o:=.dK []) n2;have e2:(aI H1 lt (.dK [])) lt=some (.dK []):=ae;have I0:NI H LZ ln lt 0 (aI H1 lt (.dK [])):=⟨s1.trans s2,n1,s1.free n2,az e1 n2,⟨[],s2 _ _ e1,rfl,.nil⟩,e2⟩;generalize aI H1 lt (.dK ([]:List (dv×V)))=H2 at*;refine⟨_,rfl,tk,rfl,⟨_,NY.of (I0.sm _ _ ht)⟩,?_⟩;refine kr (K:=K) (a:=tk) (xs:=us) (fun i σ H'=>∃v4 v5 v6 v7:Option V,σ=[some (.ref d),some (.ref tk),some (.ref ln),some (.ref lt),v4,v5,v6,v7]/\NI H LZ ln lt i H') ⟨_,_,_,_,rfl,I0⟩ (fun i σ H' _⟨_,_,_,_,_,I⟩=>NY.of (I.sm _ _ ht)) ?_ ?_
  ·rintro i x σ H3 hx ⟨v4,v5,v6,v7,rfl,I⟩;obtain⟨y,hy,hK⟩:=gq hk hx;have Md:i<LZ.length:=(JV.mp hy).1;have hyi:LZ[i]=y:=(JV.mp hy).2;obtain⟨p,tf,b,fu,rfl,hp,YX,U8,hb⟩:=hK;have VZ:LZ.take (i+1)=LZ.take i++[y]:=by rw[KE,hy];rfl
   have Yf:y∈LZ:=hyi▸KJ Md;have VJ:y.name∉(LZ.take i).map Kn.name:=by
    intro hm;have e5:LZ=LZ.take i++(y::LZ.drop (i+1)):=by
     have:=(KZ i LZ).symm;rw[KP Md,hyi]at this;exact this
    rw[e5,Kb,Kd]at L';exact(LG.mp L').2.2 _ hm _ JW rfl
   have Zz:=Dy VJ;have g:Oz H3 lt (.str y.name) none:=by
    have:=Oz.k (k:=Sum.inr y.name) I.tk;rw[Zz]at this;exact this
   refine⟨p,_,rfl,NY.of (I.sm _ _ hp),rfl,_,_,rfl,_,_,rfl,_,_,rfl,rfl,?_⟩;refine⟨_,rfl,_,rfl,lt,_,rfl,g,_,rfl,bK ?_⟩;have ltk:(vI ((LZ.take i).map Kn.name)).length<=8:=by
    unfold vI;rw[JY,JY,J9];lia
   refine⟨_,rfl,_,rfl,lt,_,rfl,O6.k (k:=Sum.inr y.name) I.tk zo,?_⟩;rw[qX _ Zz];have et:vI ((LZ.take i).map Kn.name)++[(Sum.inr y.name,V.bl true)]=vI ((LZ.take (i+1)).map Kn.name):=by
    unfold vI;rw[VZ,Kb,Kb];rfl
   rw[et];obtain⟨Xg,e3,l3,p3⟩:=I.ls;have k4:N9 H3 (aI H3 lt (.dK (vI ((LZ.take (i+1)).map Kn.name)))):=Dw I.tk;have s4:NV H (aI H3 lt (.dK (vI ((LZ.take (i+1)).map Kn.name)))):=ci I.n2 I.sm;have e4:(aI H3 lt (.dK (vI ((LZ.take (i+1)).map Kn.name)))) ln=some (.lst Xg):=by rw[am I.ne];exact e3
   have t4:(aI H3 lt (.dK (vI ((LZ.take (i+1)).map Kn.name)))) lt=some (.dK (vI ((LZ.take (i+1)).map Kn.name))):=ae;have p4:=bF (fun _ _ h=>OI.kt k4 h) p3;generalize aI H3 lt (.dK (vI ((LZ.take (i+1)).map Kn.name)))=H4 at*;have hN4:O5 H4 d ks:=let⟨kv2,a,b2⟩:=hN;⟨kv2,s4 _ _ a,bF (fun _ _ h=>h.kt (ao s4)) b2⟩;refine⟨_,rfl,_,rfl,d,tf,fu,ks,y.fs,rfl,hN4,s4 _ _ YX,bF (fun _ _ h=>h.kt (ao s4)) U8,(U9 y Yf).nd,by have:=(U9 y Yf).l3;lia,fun d' H5 s5 YM Vy=>?_⟩;have X8:=s4.trans s5;refine⟨_,rfl,d',ks++fN y.fs,b,y.bd,y.dd,rfl,Vy,(U9 y Yf).nd,hb.kt (ao X8),(U9 y Yf).bn,(U9 y Yf).b3,(U9 y Yf).s3,fun b' H6 s6 Ub=>?_⟩;have WR:=s5.trans s6;have s06:=s4.trans WR;refine⟨_,rfl,.inl ⟨rfl,_,N0.of (WR _ _ e4)⟩,_,rfl,_,rfl,_,rfl,N5,fun pt Xl=>?_⟩;generalize zz:aI H6 pt _=H7;have⟨s7,ept⟩:=nw Xl zz;clear zz;have e7:=s7 _ _ (WR _ _ e4);have Xi:=s06.trans s7;refine⟨ln,_,_,rfl,rfl,e7,by rw[l3];lia,?_⟩;have k8:=vB (ys:=Xg++[V.ref pt]) e7;have k47:N9 H4 H7:=ao (WR.trans s7);refine⟨_,_,_,_,rfl,ci I.n1 Xi,I.n1,I.n2,I.ne,⟨Xg++[.ref pt],ae,by simp[l3],?_⟩,?_⟩
   ·rw[VZ];refine gO ⟨pt,tf,b',fu,rfl,k8 _ _ ept,k8 _ _ (Xi _ _ YX),bF (fun _ _ h=>(h.kt (ao Xi)).kt k8) U8,(Ub.kt (ao s7)).kt k8⟩ (bF (fun _ _ h=>(OI.kt k47 h).kt k8) p4)
   ·rw[am I.ne.symm];exact s7 _ _ (WR _ _ t4)
  ·rintro σ H3 ⟨v4,v5,v6,v7,rfl,I⟩;obtain⟨Xg,e3,l3,p3⟩:=I.ls;rw[lk,Ky]at p3;refine⟨_,rfl,ln,Xg,rfl,.inl ⟨N0.of e3,fun p np=>?_⟩⟩;have s4:=ag (o:=.tup Xg) np;exact q p Xg _ (I.sm.trans s4) (I.sm.free np) ae (bF (fun _ _ h=>OI.kt (ao s4) h) p3)
end
def dh(h:X.K=K)(hc:X.calm=true)(hg:Gk X es t)(hn:(assignEach es X.env).length=n:=by rfl)(M':(assignEach es X.env).findIdx? (·.1)=none:=by rfl):PG X (.Tuple es k pos) (D1 K n t):=by
 subst h;exact dA hc hg hn M'
def Cf(vw vc vd vp vm vg:V)(pn pk:Ts):List (Str×V):=[(R_,vw),(Se,vc),(Sh,vd),(Sa,vp),(Sg,vm),(Sx,vg),(SC,.ref pn),(Ss,.ref pk)]
def IU:TH:=[R_,Se,Sh,Sa,Sg,Sx,SC,Ss]
structure Tc(K:ZF)(C:Ts):Prop where
 cl:PP K C
 na:∀f∈IU,Oe K C f
abbrev pM:Stmt:=cJ jc 0
inductive pN(C:Ts)(vs:TQ)(H:Hp)(Q:VK)(Z3:XK):Prop
 |mk(x dx vw vc vd vp vm vg pk us LZ:_):vs=[.ref x,vw,vc,vd,vp,vm,vg,.ref pk]->H x=some (.ins C dx [])->H pk=some (.tup us)->Paired (OI H) us LZ->LZ.length<=8->(∀pn H',H' x=some (.ins C dx (Cf vw vc vd vp vm vg pn pk))->H pn=none->H' pn=some (.tup (al (LZ.map Kn.name)))->N4 x H H'->Q .non H')->pN C vs H Q Z3
section
def Cg:av [R8,R_,Se,Sh,Sa,Sg,Sx,Ss] [R8,R_,Se,Sh,Sa,Sg,Sx,Ss] (ak pM):=cV zk
def ET:(["name",S7,"deed"]:TH).Nodup:=by decide +kernel
def zf(F:Ob K "__init__" "Table.__init__" pM f fd)(T:Tc K C)(B:Bl mg):NZ P w K mg base bZ 1 f fd [R8,R_,Se,Sh,Sa,Sg,Sx,Ss] (pN C):=by
 have ZZ:=Cg
 walk_at "o"
 ·obtain⟨x,dx,vw,vc,vd,vp,vm,vg,pk,us,LZ,rfl,hx,hk,hp,h8,q⟩:=h;walk_at "w"
  refine⟨_,(af (eL (pv 0) (pv 1) rfl)
   (af (eL (pv 0) (pv 2) rfl)
   (af (eL (pv 0) (pv 3) rfl)
   (af (eL (pv 0) (pv 4) rfl)
   (af (eL (pv 0) (pv 5) rfl)
   (af (eL (pv 0) (pv 6) rfl)
   (af (eL (pv 0) (aV bh (by rfl) B.tuple br (aa (dQ (N':=["name",S7,"deed"]) (ix:=[none,none,none]) (sc0:=ak pM) (N:=[R8,R_,Se,Sh,Sa,Sg,Sx,Ss]) rfl zk (iz (pv 7)) (fun C' cl s H fp=>dh (K:=K) (n:=3) rfl rfl (aw (cG (i:=0) ET) (aw (cG (i:=1) ET) (aw (cG (i:=2) ET) bB)))) (fun _ _ _ _ _=>dM) (fun C' cl s H fp=>pv 0)) ac)) rfl)
   (aj (eL (pv 0) (pv 7) rfl))))))))),?_⟩
  have b0:N4 x H H:=N4.refl _ _;refine⟨_,rfl,_,rfl,x,C,dx,_,rfl,hx,T.cl,T.na R_ zk,(by show 0<1000;decide),?_⟩;have e1:(aI H x (.ins C dx (aL R_ vw []))) x=some (.ins C dx (aL R_ vw [])):=ae;have b1:N4 x H (aI H x (.ins C dx (aL R_ vw []))):=fun b o e nb=>by rw[am nb];exact b0 _ _ e nb
  generalize aI H x (.ins C dx (aL R_ vw []))=H1 at*;refine⟨_,rfl,_,rfl,x,C,dx,_,rfl,e1,T.cl,T.na Se zk,(by show 1<1000;decide),?_⟩;have e2:(aI H1 x (.ins C dx (aL Se vc (aL R_ vw [])))) x=some (.ins C dx (aL Se vc (aL R_ vw []))):=ae;have b2:N4 x H (aI H1 x (.ins C dx (aL Se vc (aL R_ vw [])))):=fun b o e nb=>by rw[am nb];exact b1 _ _ e nb
  generalize aI H1 x (.ins C dx (aL Se vc (aL R_ vw [])))=H2 at*;refine⟨_,rfl,_,rfl,x,C,dx,_,rfl,e2,T.cl,T.na Sh zk,(by show 2<1000;decide),?_⟩;have e3:(aI H2 x (.ins C dx (aL Sh vd (aL Se vc (aL R_ vw []))))) x=some (.ins C dx (aL Sh vd (aL Se vc (aL R_ vw [])))):=ae;have b3:N4 x H (aI H2 x (.ins C dx (aL Sh vd (aL Se vc (aL R_ vw []))))):=fun b o e nb=>by rw[am nb];exact b2 _ _ e nb
  generalize aI H2 x (.ins C dx (aL Sh vd (aL Se vc (aL R_ vw []))))=H3 at*;refine⟨_,rfl,_,rfl,x,C,dx,_,rfl,e3,T.cl,T.na Sa zk,(by show 3<1000;decide),?_⟩;have e4:(aI H3 x (.ins C dx (aL Sa vp (aL Sh vd (aL Se vc (aL R_ vw [])))))) x=some (.ins C dx (aL Sa vp (aL Sh vd (aL Se vc (aL R_ vw []))))):=ae;have b4:N4 x H (aI H3 x (.ins C dx (aL Sa vp (aL Sh vd (aL Se vc (aL R_ vw [])))))):=fun b o e nb=>by rw[am nb];exact b3 _ _ e nb
  generalize aI H3 x (.ins C dx (aL Sa vp (aL Sh vd (aL Se vc (aL R_ vw [])))))=H4 at*;refine⟨_,rfl,_,rfl,x,C,dx,_,rfl,e4,T.cl,T.na Sg zk,(by show 4<1000;decide),?_⟩;have e5:(aI H4 x (.ins C dx (aL Sg vm (aL Sa vp (aL Sh vd (aL Se vc (aL R_ vw []))))))) x=some (.ins C dx (aL Sg vm (aL Sa vp (aL Sh vd (aL Se vc (aL R_ vw [])))))):=ae;have b5:N4 x H (aI H4 x (.ins C dx (aL Sg vm (aL Sa vp (aL Sh vd (aL Se vc (aL R_ vw []))))))):=fun b o e nb=>by rw[am nb];exact b4 _ _ e nb
  generalize aI H4 x (.ins C dx (aL Sg vm (aL Sa vp (aL Sh vd (aL Se vc (aL R_ vw []))))))=H5 at*;refine⟨_,rfl,_,rfl,x,C,dx,_,rfl,e5,T.cl,T.na Sx zk,(by show 5<1000;decide),?_⟩;have e6:(aI H5 x (.ins C dx (aL Sx vg (aL Sg vm (aL Sa vp (aL Sh vd (aL Se vc (aL R_ vw [])))))))) x=some (.ins C dx (aL Sx vg (aL Sg vm (aL Sa vp (aL Sh vd (aL Se vc (aL R_ vw []))))))):=ae;have b6:N4 x H (aI H5 x (.ins C dx (aL Sx vg (aL Sg vm (aL Sa vp (aL Sh vd (aL Se vc (aL R_ vw [])))))))):=fun b o e nb=>by rw[am nb];exact b5 _ _ e nb
  generalize aI H5 x (.ins C dx (aL Sx vg (aL Sg vm (aL Sa vp (aL Sh vd (aL Se vc (aL R_ vw [])))))))=H6 at*;have pkx:pk≠x:=by
   rintro rfl;rw[hk]at hx;cases hx
  have hk6:=b6 _ _ hk pkx;have k6:N9 H H6:=b6.kt hx;have hp6:=bF (fun _ _ h=>OI.kt k6 h) hp;have lk:=hp.length;refine⟨_,rfl,pk,rfl,⟨_,NY.of hk6⟩,?_⟩;refine sQ (K:=K) (a:=pk) (xs:=us) (fun i ys H'=>H'=H6/\ys=al ((LZ.take i).map Kn.name)) ⟨rfl,rfl⟩ (fun i ys H' hi⟨a1,a2⟩=>by
    subst a1 a2;refine⟨NY.of hk6,?_⟩;unfold al;rw[JY,JY,J9];lia) ?_ ?_
  ·rintro i z ys H' hz ⟨rfl,rfl⟩;obtain⟨y,hy,p,tf,bb,fu,rfl,VH,_⟩:=gq hp6 hz;have Md:i<us.length:=(JV.mp hz).1;refine⟨p,_,rfl,NY.of VH,rfl,_,_,rfl,_,_,rfl,_,_,rfl,rfl,trivial,dN ?_⟩;refine⟨_,rfl,Nx.mk Md ⟨rfl,?_⟩⟩;rw[KE,hy];unfold al;simp
  ·rintro ys H' ⟨rfl,rfl⟩ D hD;rw[lk,Ky];generalize zz:aI H' D _=H7;have s7:=(nw hD zz).1;have e7:H7 D=some (.lst (al (LZ.map Kn.name))):=(nw hD zz).2;clear zz;have x7:=s7 _ _ e6;refine⟨D,_,rfl,.inl ⟨N0.of e7,fun pn Z8=>?_⟩⟩;generalize zz:aI H7 pn _=H8;have s8:=(nw Z8 zz).1;have e8:H8 pn=some (.tup (al (LZ.map Kn.name))):=(nw Z8 zz).2;clear zz;have x8:=s8 _ _ x7;have b8:=(b6.same s7).same s8;have nH:H pn=none:=jg (b6.same s7) x7 Z8;have pnx:pn≠x:=by
    rintro rfl;rw[nH]at hx;cases hx
   refine⟨_,rfl,x,C,dx,_,rfl,x8,T.cl,T.na SC zk,(by show 6<1000;decide),?_⟩;refine⟨_,rfl,_,rfl,x,C,dx,_,rfl,ae,T.cl,T.na Ss zk,(by show 7<1000;decide),?_⟩;refine q pn _ ?_ nH ?_ ?_
   ·rw[ae];rfl
   ·rw[am pnx,am pnx];exact e8
   ·intro b o e nb;rw[am nb,am nb];exact b8 _ _ e nb
end
def iZ(st:Str)(l:TH):List Ne:=l.mapIdx fun i z=>(z,st,false,i)
def mv(st:Str)(l:TH)(i:Nat):(iZ st l)[i]?=l[i]?.map fun z=>(z,st,false,i):=by unfold iZ;rw[List.getElem?_mapIdx]
def fb(st:Str)(l:TH):(iZ st l).length=l.length:=by unfold iZ;simp
def io(D:Fm):List Ne:=iZ R9 D.places++iZ Sc D.marks
def cD(D:Fm):V:=match D.gates with
 |[]=>.non
 |z::_=>.str z
structure wY(D:Fm):Prop where
 nd:((io D).map (·.1)).Nodup
 gt:∀z∈D.gates,z∈D.marks
 g1:D.gates.length<=1
 kn:(D.kinds.map Kn.name).Nodup
 kf:∀x∈D.kinds,EM (io D) x
 p4:D.places.length<=4
 m3:D.marks.length<=3
 k8:D.kinds.length<=8
inductive Oq(C:Ts)(H:Hp)(v:V)(D:Fm):Prop
 |mk(a dx pp pm pn pk us:_):v=.ref a->H a=some (.ins C dx (Cf (.int D.width) (.int D.cells) (.int D.depth) (.ref pp) (.ref pm) (cD D) pn pk))->H pp=some (.tup (al D.places))->H pm=some (.tup (al D.marks))->H pn=some (.tup (al (D.kinds.map Kn.name)))->H pk=some (.tup us)->Paired (OI H) us D.kinds->Oq C H v D
inductive EU(C:Ts)(vs:TQ)(H:Hp)(Q:VK)(Z3:XK):Prop
 |mk(u D:_):vs=[u]->y4 H u D->wY D->(∀v H',NV H H'->Oq C H' v D->Q v H')->EU C vs H Q Z3
def zg{A B:List Ne}{x:Ne}(h:((A++x::B).map (·.1)).Nodup):x.1∉A.map (·.1):=by
 rw[Kb,Kd]at h;intro hm;exact(LG.mp h).2.2 _ hm _ JW rfl
section
def OF:av ["form",R_,Se,Sh,Sa,Sg,"gates",SC,Sj,"i","name",Sx,Ss] ["form"] (ak gk):=cV zk
inductive zh(p:Ts)(D:Fm)(pp:Ts)(pm:Ts)(pg:Ts)(pk:Ts)(H:Hp)(σ:St)(H':Hp):Prop
 |mk(d:Ts)(v9 Uq Uh Vh:Option V):σ=[some (.ref p),some (.int D.width),some (.int D.cells),some (.int D.depth),some (.ref pp),some (.ref pm),some (.ref pg),some (.ref pk),some (.ref d),v9,Uq,Uh,Vh]->H d=none->NV H H'->O5 H' d (iZ R9 D.places)->zh p D pp pm pg pk H σ H'
inductive zi(p:Ts)(D:Fm)(pp:Ts)(pm:Ts)(pg:Ts)(pk:Ts)(H:Hp)(σ:St)(H':Hp):Prop
 |mk(d:Ts)(v9 Uq Uh Vh:Option V):σ=[some (.ref p),some (.int D.width),some (.int D.cells),some (.int D.depth),some (.ref pp),some (.ref pm),some (.ref pg),some (.ref pk),some (.ref d),v9,Uq,Uh,Vh]->H d=none->NV H H'->O5 H' d (io D)->zi p D pp pm pg pk H σ H'
inductive zj(p:Ts)(D:Fm)(pp:Ts)(pm:Ts)(pg:Ts)(pk:Ts)(H:Hp)(σ:St)(H':Hp):Prop
 |mk(d:Ts)(v9 Uq Uh Vh:Option V):σ=[some (.ref p),some (.int D.width),some (.int D.cells),some (.int D.depth),some (.ref pp),some (.ref pm),some (.ref pg),some (.ref pk),some (.ref d),v9,Uq,Uh,Vh]->Uh=some (cD D)->H d=none->NV H H'->O5 H' d (io D)->zj p D pp pm pg pk H σ H'
def G0{f:Ts}{fd fdi:TB}{n:Nat}(F:Ob K "table_of_form" "table_of_form" gk f fd)(B:Bl mg)(B3:EH mg)(MK:Mk K C fi)(mgT:mg "Table"=some (.ref C))(IN:NZ P w K mg base bZ 1 fi fdi [R8,R_,Se,Sh,Sa,Sg,Sx,Ss] (pN C))(bI:Oa K fdi [R8,R_,Se,Sh,Sa,Sg,Sx,Ss] [])
  (AN:Fn P w K mg base "add_name" 1 [Sj,"name",Tl,"sel"] hI) (NK:Fn P w K mg base "need_known" 1 [Sj,"name",Tk] (cP K)) (KN:Fn P w K mg base "kinds_named" n [Sj,SC] EQ) (hn:3<=n):NZ P w K mg base bZ (n+1) f fd ["form"] (EU C):=by
 have ZZ:=OF
 walk_at "o"
 ·obtain⟨u,D,rfl,⟨p,pp,pm,pg,pk,us,rfl,hp,VH,Wl,hpg,Ws,L9⟩,hD,q⟩:=h;have LU:N1 1 _:=hr.mono zo;have LV:N1 2 _:=hr.mono zo;walk_at "w"
  refine⟨_,af (gB (pv 0) (dA rfl (aw (cG (i:=1) OF.nd) (aw (cG (i:=2) OF.nd) (aw (cG (i:=3) OF.nd) (aw (cG (i:=4) OF.nd) (aw (cG (i:=5) OF.nd) (aw (cG (i:=6) OF.nd) (aw (cG (i:=7) OF.nd) bB)))))))))
   (af (bL (i:=8) OF.nd rl)
   (bf (zh p D pp pm pg pk H) (dB h_ rfl (lP rfl B3.enumerate (aa (pv 4) ac)) (dA rfl (aw (cG (i:=9) OF.nd) (aw (cG (i:=10) OF.nd) bB))) (aj (aM (ar AN LU rfl (aa (pv 8) (aa (pv 10) (aa ai (aa (ay (aa ai (aa (pv 9) ac))) ac))))))))
   (bf (zi p D pp pm pg pk H) (dB h_ rfl (lP rfl B3.enumerate (aa (pv 5) ac)) (dA rfl (aw (cG (i:=9) OF.nd) (aw (cG (i:=10) OF.nd) bB))) (aj (aM (ar AN LU rfl (aa (pv 8) (aa (pv 10) (aa ai (aa (ay (aa ai (aa (pv 9) ac))) ac))))))))
   (af (bL (i:=11) OF.nd iw)
   (bf (zj p D pp pm pg pk H) (dB h_ rfl (iz (pv 6)) (cG (i:=10) OF.nd) (af (aM (ar NK LU rfl (aa (pv 8) (aa (pv 10) (aa (ay (aa ai ac)) ac))))) (aj (bL (i:=11) OF.nd (pv 10)))))
   (af (bL (i:=12) OF.nd (ar KN hr rfl (aa (pv 8) (aa (pv 7) ac))))
   (aj (aq (uV MK IN LV rfl mgT bI .nil iq (aa (pv 1) (aa (pv 2) (aa (pv 3) (aa (pv 4) (aa (pv 5) (aa (pv 11) (aa (pv 12) ac)))))))))))))))),?_⟩
  refine⟨_,rfl,p,_,rfl,NY.of hp,rfl,_,_,rfl,_,_,rfl,_,_,rfl,_,_,rfl,_,_,rfl,_,_,rfl,_,_,rfl,rfl,?_⟩;refine fun d nd=>?_;have s1:=ag (o:=.dK []) nd;have I1:O5 (aI H d (.dK [])) d []:=⟨[],ae,.nil⟩;generalize aI H d (.dK ([]:List (dv×V)))=H1 at*;refine⟨?_,?_⟩
  ·rintro σ H2 ⟨d,v9,Uq,Uh,Vh,rfl,nd,s2,I2⟩;refine⟨?_,?_⟩
   ·rintro σ H3 ⟨d,v9,Uq,Uh,Vh,rfl,nd,s3,I3⟩;refine⟨?_,?_⟩
    ·rintro σ H4 ⟨d,v9,Uq,Uh,Vh,rfl,rfl,nd,s4,I4⟩;refine⟨_,rfl,_,rfl,d,pk,us,io D,D.kinds,rfl,I4,s4 _ _ Ws,bF (fun _ _ h=>OQ.kt (ao s4) h) L9,hD.kn,hD.kf,?_,hD.k8,fun p5 us5 H5 s5 n5 e5 k5=>?_⟩
     ·unfold io;rw[JU,fb,fb];have:=hD.p4;have:=hD.m3;lia
     have s05:=s4.trans s5;refine⟨_,rfl,_,rfl,_,rfl,_,rfl,_,rfl,_,rfl,_,rfl,fun x dx nx ndx ne=>?_⟩;refine⟨x,dx,_,_,_,_,_,_,p5,us5,D.kinds,rfl,ae,(ci nx (ag ndx)) _ _ e5,bF (fun _ _ h=>OI.kt (ao (ci nx (ag ndx))) h) k5,hD.k8,fun pn H7 e7 Z8 epn b7=>⟨rfl,?_⟩⟩;have s57:NV H5 H7:=fJ nx (ci nx (ag ndx)) b7;have Xi:=s05.trans s57;exact q _ _ Xi ⟨x,dx,pp,pm,pn,p5,us5,rfl,e7,Xi _ _ VH,Xi _ _ Wl,epn,s57 _ _ e5,bF (fun _ _ h=>OI.kt (ao s57) h) k5⟩
    ·refine⟨_,rfl,pg,rfl,⟨_,NY.of (s3 _ _ hpg)⟩,?_⟩;refine kr (K:=K) (a:=pg) (xs:=al D.gates) (fun i σ H'=>∃(v9 Uq Uh Vh:Option V),σ=[some (.ref p),some (.int D.width),some (.int D.cells),some (.int D.depth),some (.ref pp),some (.ref pm),some (.ref pg),some (.ref pk),some (.ref d),v9,Uq,Uh,Vh]/\Uh=some (if i=0 then .non else cD D)/\NV H H'/\O5 H' d (io D)) ⟨_,_,_,_,rfl,rfl,s3,I3⟩ (fun i σ H' _⟨_,_,_,_,_,_,s',_⟩=>NY.of (s' _ _ hpg)) ?_ ?_
     ·rintro i x σ Ha hx ⟨w9,YA,Yz,Yy,rfl,rfl,sa,Ia⟩;have Y':=hD.g1;have Ua:=hD.gt;have VD:i<(al D.gates).length:=(JV.mp hx).1;unfold al at hx VD;rw[JY]at VD;cases hgs:D.gates with
      |nil=>rw[hgs]at VD;simp at VD
      |cons z r=>
       rw[hgs]at hx VD Y' Ua;have hi0:i=0:=by simp only[JX]at Y' VD;lia
       subst hi0;have exz:x=.str z:=by simpa using hx.symm
       subst exz;have hzm:=Ua z JW;refine⟨_,rfl,_,rfl,N5,fun t nt=>?_⟩;have sb:=ag (o:=.tup [.str Sc]) nt;obtain⟨gi,Y_⟩:=List.getElem?_of_mem hzm;refine⟨d,io D,z,Sc,t,[Sc],false,gi,rfl,Ia.same sb,?_,hD.nd,.inr (NY.of ae),by simp,fun qq sl Hb sc eb _=>?_⟩
       ·exact Km _ (Kg (by rw[mv,Y_];rfl))
       refine⟨_,rfl,_,_,_,_,rfl,?_,(sa.trans sb).trans sc,(Ia.same sb).same sc⟩;rw[f_ zo];unfold cD;rw[hgs]
     ·rintro σ Ha ⟨w9,YA,Yz,Yy,rfl,rfl,sa,Ia⟩;refine⟨d,_,_,_,_,rfl,?_,nd,sa,Ia⟩;have Zj:(al D.gates).length=D.gates.length:=by unfold al;rw[JY]
      rw[Zj];cases hgs:D.gates with
      |nil=>
       unfold cD;rw[hgs];rfl
      |cons z r=>rw[f_ (by simp)]
   ·refine⟨_,rfl,pm,rfl,⟨_,NY.of (s2 _ _ Wl)⟩,?_⟩;refine jH (K:=K) (l:=pm) (xs:=al D.marks) (fun i σ H'=>∃(v9 Uq Uh Vh:Option V),σ=[some (.ref p),some (.int D.width),some (.int D.cells),some (.int D.depth),some (.ref pp),some (.ref pm),some (.ref pg),some (.ref pk),some (.ref d),v9,Uq,Uh,Vh]/\NV H H'/\O5 H' d (iZ R9 D.places++(iZ Sc D.marks).take i)) ⟨_,_,_,_,rfl,s2,by simpa using I2⟩ (fun i σ H' _⟨_,_,_,_,_,s',_⟩=>NY.of (s' _ _ Wl)) ?_ ?_
    ·rintro i x σ Ha T1 hx nT ⟨w9,YA,Yz,Yy,rfl,sa,Ia⟩;obtain⟨z,hz,rfl⟩:∃z,D.marks[i]?=some z/\x=.str z:=by
      unfold al at hx;rw[Kl]at hx;cases hh:D.marks[i]? with
      |none=>rw[hh]at hx;cases hx
      |some z=>rw[hh]at hx;exact⟨z,rfl,(Kw hx).symm⟩
     have Md:i<D.marks.length:=(JV.mp hz).1;have hzi:D.marks[i]=z:=(JV.mp hz).2;have sb:=ag (o:=.tup [.int (i:Int),.str z]) nT;refine⟨T1,_,rfl,NY.of ae,rfl,_,_,rfl,_,_,rfl,rfl,?_⟩;refine⟨_,rfl,_,rfl,_,rfl,N5,fun t nt=>?_⟩;have sc:=ag (o:=.tup [.str "is",.int (i:Int)]) nt;have sac:=sa.trans (sb.trans sc);have U7:(iZ Sc D.marks)[i]?=some (z,(Sc:Str),false,i):=by rw[mv,hz];rfl
     have V8:i<(iZ Sc D.marks).length:=by rw[fb];exact Md
     have VZ:(iZ Sc D.marks).take (i+1)=(iZ Sc D.marks).take i++[(z,(Sc:Str),false,i)]:=by rw[KE,U7];rfl
     refine⟨d,_,z,Sc,t,false,i,rfl,Ia.same (sb.trans sc),ae,?_,?_,fun Hb Ib bb=>⟨_,_,_,_,rfl,fJ nd sac bb,?_⟩⟩
     ·have hh:=hD.nd;have e5:io D=(iZ R9 D.places++(iZ Sc D.marks).take i)++((z,(Sc:Str),false,i)::(iZ Sc D.marks).drop (i+1)):=by
       have:=(KZ i (iZ Sc D.marks)).symm;rw[KP V8,(JV.mp U7).2]at this;unfold io;rw[KH];exact e_ (iZ R9 D.places++·) this
      rw[e5]at hh;exact zg hh
     ·simp only[JU,fb,J9,Ke];have:=hD.p4;have:=hD.m3;lia
     ·rw[VZ,<-KH];exact Ib
    ·rintro σ Ha ⟨w9,YA,Yz,Yy,rfl,sa,Ia⟩;have Zj:(al D.marks).length=D.marks.length:=by unfold al;rw[JY]
     rw[Zj,<-fb Sc,Ky]at Ia;exact⟨d,_,_,_,_,rfl,nd,sa,Ia⟩
  ·refine⟨_,rfl,pp,rfl,⟨_,NY.of (s1 _ _ VH)⟩,?_⟩;refine jH (K:=K) (l:=pp) (xs:=al D.places) (fun i σ H'=>∃(v9 Uq Uh Vh:Option V),σ=[some (.ref p),some (.int D.width),some (.int D.cells),some (.int D.depth),some (.ref pp),some (.ref pm),some (.ref pg),some (.ref pk),some (.ref d),v9,Uq,Uh,Vh]/\NV H H'/\O5 H' d ([]++(iZ R9 D.places).take i)) ⟨_,_,_,_,rfl,s1,by simpa using I1⟩ (fun i σ H' _⟨_,_,_,_,_,s',_⟩=>NY.of (s' _ _ VH)) ?_ ?_
   ·rintro i x σ Ha T1 hx nT ⟨w9,YA,Yz,Yy,rfl,sa,Ia⟩;obtain⟨z,hz,rfl⟩:∃z,D.places[i]?=some z/\x=.str z:=by
     unfold al at hx;rw[Kl]at hx;cases hh:D.places[i]? with
     |none=>rw[hh]at hx;cases hx
     |some z=>rw[hh]at hx;exact⟨z,rfl,(Kw hx).symm⟩
    have Md:i<D.places.length:=(JV.mp hz).1;have hzi:D.places[i]=z:=(JV.mp hz).2;have sb:=ag (o:=.tup [.int (i:Int),.str z]) nT;refine⟨T1,_,rfl,NY.of ae,rfl,_,_,rfl,_,_,rfl,rfl,?_⟩;refine⟨_,rfl,_,rfl,_,rfl,N5,fun t nt=>?_⟩;have sc:=ag (o:=.tup [.str "is",.int (i:Int)]) nt;have sac:=sa.trans (sb.trans sc);have U7:(iZ R9 D.places)[i]?=some (z,(R9:Str),false,i):=by rw[mv,hz];rfl
    have V8:i<(iZ R9 D.places).length:=by rw[fb];exact Md
    have VZ:(iZ R9 D.places).take (i+1)=(iZ R9 D.places).take i++[(z,(R9:Str),false,i)]:=by rw[KE,U7];rfl
    refine⟨d,_,z,R9,t,false,i,rfl,Ia.same (sb.trans sc),ae,?_,?_,fun Hb Ib bb=>⟨_,_,_,_,rfl,fJ nd sac bb,?_⟩⟩
    ·have hh:=hD.nd;have e5:io D=([]++(iZ R9 D.places).take i)++((z,(R9:Str),false,i)::(iZ R9 D.places).drop (i+1)++iZ Sc D.marks):=by
      have:=(KZ i (iZ R9 D.places)).symm;rw[KP V8,(JV.mp U7).2]at this;unfold io;rw[LL,<-KH];exact e_ (·++iZ Sc D.marks) this
     rw[e5]at hh;exact zg hh
    ·simp only[JU,fb,J9,Ke];have:=hD.p4;have:=hD.m3;lia
    ·rw[VZ,<-KH];exact Ib
   ·rintro σ Ha ⟨w9,YA,Yz,Yy,rfl,sa,Ia⟩;have Zj:(al D.places).length=D.places.length:=by unfold al;rw[JY]
    rw[Zj,<-fb R9,Ky]at Ia;exact⟨d,_,_,_,_,rfl,nd,sa,by simpa using Ia⟩
end
end L3
namespace PySem
open Sem (wp)
section
open PySem.SeqAt
open PySem.AutoSeq1 (wpAny_loadPart')
open PySem.MeetsSeq PySem.MeetsSeq2 PySem.MeetsSeq3
def O7(f:Nat->β->Sem (ForInStep β))(I:TJ->β->Tu->Prop)(Q:β->Tu->Prop)
  (UV:∀(x:Nat)(j':TJ)(b:β)(s:Tu),I (x::j') b s->wpAny M A (f x b) (fun r s'=>match r with|.yield b'=>I j' b' s'|.done b'=>Q b' s') E s)
  (F':∀(b:β)(s:Tu),I [] b s->Q b s) (r:Std.Legacy.Range) (b:β) (h:I (List.range' r.start r.size r.step) b s):wpAny M A (forIn r b f) Q E s:=by
 rw[Std.Legacy.Range.forIn_eq_forIn_range'];exact wpAny_forIn_list f I Q UV F' _ b h
def Pj(l:Ts)(Me:Array Tr)(n:Nat)(dd:Option Ts)(sl:Array (Option Tr))(x:Tr)(e:Tr->Bool)(j:Nat)(hj:j<Me.size)(he:e Me[j]=true)(hn:∀(m:Nat)(hm:m<Me.size),m<j->e Me[m]=false):
  Meets (Builtin.«tuple.index» ⟨[.ref l,x],[]⟩) (fun A R s=>s.heap.get? l=some {cls:=.type "tuple",dict:=dd,data:=.seq Me n,slots:=sl}/\(∀y∈Me,EqAt A.in1 s y x (e y))/\∀t k,R (.ok (.ret (.int j t))) {s with toks:=k}):=
 .of_wp fun prog w A R s h=>by
  obtain⟨hp,g,d,tk,os⟩:=s;obtain⟨hl,hb,h⟩:=h
  wp_walk using M_ hl,O7 _ (fun j' b s'=>b.1=none/\s'=⟨hp,g,d,tk,os⟩/\∃k,j'=List.range' k (Me.size-k)/\k<=j) _
  case UV=>
   rintro i j' b s' ⟨Ub,rfl,k,hr,hk⟩;have hz:Me.size-k=(Me.size-(k+1))+1:=by lia
   rw[hz,List.range'_succ]at hr;injection hr with h1 h2;subst h1;have hki:i<Me.size:=by lia
   have hg:Me[i]?=some Me[i]:=by simp[hki]
   rw[hg];have hq:=hb Me[i] (by simp);refine a_ (hq prog w _ _ ?_);by_cases hij:i=j
   ·subst hij;rw[he]
    wp_walk
    exact⟨_,rfl,h _ _⟩
   ·rw[hn i hki zo]
    wp_walk
    exact⟨rfl,rfl,i+1,h2,zo⟩
  case F'=>
   rintro b s' ⟨Ub,rfl,k,hr,hk⟩;have hz:Me.size-k=(Me.size-(k+1))+1:=by lia
   rw[hz,List.range'_succ]at hr;cases hr
  case h=>
   refine⟨rfl,rfl,0,?_,KO _⟩;simp[Std.Legacy.Range.size]
end
end PySem
namespace L2
open PySem PySem.Spec PyProof.Rows
section
def rH:F9 X "tuple.index" (fun x xs H Q=>∃(p:Ts)(zs:TH)(z:Str)(j:Nat),x=.ref p/\xs=[.str z]/\NY X.K H p (zs.map V.str)/\zs[j]?=some z/\(∀m,m<j->zs[m]?≠some z)/\Q (.int (j:Nat)) H):=by
 intro pins s σ H x xs v us Q I rx rv h;obtain⟨p,zs,z,j,rfl,rfl,hS,hj,hn,q⟩:=h;cases rx;obtain⟨u,rfl,ru⟩:=rv.one;obtain⟨f',r,pl,hz⟩:=I.tuple hS;have W2:(zs.map V.str).all dZ=true:=by
  rw[RK];exact KC.mpr fun _ _=>rfl
 have LS:=r.length;rw[JY]at LS;have WY:j<zs.length:=(JV.mp hj).1;have ev:∀m(hm:m<f'.toArray.size),qM (.str z) f'.toArray[m]=decide (zs[m]?=some z):=fun m hm=>by
  have hm':m<zs.length:=by rw[LS];simpa using hm
  obtain⟨w,ew,VP⟩:=r.get (i:=m) (x:=.str zs[m]) (by simp[hm']);have e2:f'.toArray[m]=w:=by
   have:=(JV.mp ew).2;simpa using this
  rw[e2,sK VP rfl,J1 hm'];show wC (.str zs[m]) (.str z)=_;by_cases hh:zs[m]=z
  ·simp[hh,wC]
  ·simp[hh,wC]
 obtain⟨o,there,Fe,n,YR⟩:=pl;cases o with
 |mk oc od YK Uj=>
  dsimp only at Fe YR;subst Fe YR;refine call_meets F.slot_tuple_index ⟨_,there,rfl⟩ F.entry_tuple_index (F.args_tuple_index_2 _ _) (Pj p f'.toArray n od Uj u (qM (.str z)) j (by simpa[<-LS]using WY) ?_ ?_) ⟨there,fun w hw=>fE ru rfl r W2 w (by simpa using hw),fun t k=>⟨.int j,H,I.tok _,⟨t,rfl⟩,q⟩⟩
  ·rw[ev,hj];simp
  ·intro m hm hmj;rw[ev];simpa using hn m hmj
end
end L2
namespace PySem
section
open Sem (wp)
def Oc:Bool->Heap->Ts->Ts->Nat->Prop
 |true,h,it,l,i=>h.IsTupleIter it l i
 |false,h,it,l,i=>h.IsListIter it l i
def Oj:Bool->Heap->Ts->Array Tr->Prop
 |true,h,l,xs=>h.IsTuple l xs
 |false,h,l,xs=>h.IsList l xs
def Oc.at(a:Oc b h it l i)(k:∀o,h.get? it=some o->h'.get? it=some o):Oc b h' it l i:=by
 cases b with
 |true=>exact(let⟨o,x,y⟩:=a;⟨o,k o x,y⟩:h'.IsTupleIter it l i)
 |false=>exact(let⟨o,x,y⟩:=a;⟨o,k o x,y⟩:h'.IsListIter it l i)
def Oj.at(a:Oj b h l xs)(k:∀o,h.get? l=some o->h'.get? l=some o):Oj b h' l xs:=by
 cases b with
 |true=>exact(let⟨o,x,y⟩:=a;⟨o,k o x,y⟩:h'.IsTuple l xs)
 |false=>exact(let⟨o,x,y⟩:=a;⟨o,k o x,y⟩:h'.IsList l xs)
def Oc.some(a:Oc b h it l i):∃o,h.get? it=some o/\∀v,o.data≠.cell v:=by
 cases b with
 |true=>exact(let⟨o,x,_,z⟩:=a;⟨o,x,fun v q=>by rw[z]at q;cases q⟩)
 |false=>exact(let⟨o,x,_,z⟩:=a;⟨o,x,fun v q=>by rw[z]at q;cases q⟩)
section
def Pb(hit:Oc b s.heap it l i)(hl:Oj b s.heap l Me)(hx:Me[i]?=some x)
  (hQ:∀h',Oc b h' it l (i+1)->Heap.SameBut it s.heap h'->Q x {s with heap:=h'}):wpAny (model prog w) A (Builtin.SmallTypes.nextOf (.ref it)) Q E s:=by
 cases b with
 |true=>exact Ov hit hl hx hQ
 |false=>exact wpAny_nextOf_list_item hit hl hx hQ
def Qm(hh:A.handled=none)(hit:Oc b s.heap it l i)(hl:Oj b s.heap l Me)(hx:Me[i]?=none)
  (hE:∀h' e,Heap.ExtBut it s.heap h'->(∃o,h'.get? e=some o/\o.cls=.type "StopIteration")->E (.ref e) {s with heap:=h'}):wpAny (model prog w) A (Builtin.SmallTypes.nextOf (.ref it)) Q E s:=by
 cases b with
 |true=>exact nextOf_tuple_end hh hit hl hx hE
 |false=>exact wpAny_nextOf_list_end hh hit hl hx hE
def Qq{b1 b2:Bool}{z TI TO i1 i2 l1 l2:Ts}{k1 k2:Nat}{xs ys:Array Tr}{x y a b:Tr}{Q:Tr->Tu->Prop}(D:ZipApart z TI TO i1 i2 l1 l2)(hz:IsZip s.heap z TI TO .none)(US:IsPair s.heap TI (.ref i1) (.ref i2))(U':IsPair s.heap TO a b)
  (h1:Oc b1 s.heap i1 l1 k1) (h2:Oc b2 s.heap i2 l2 k2) (q1:Oj b1 s.heap l1 xs) (q2:Oj b2 s.heap l2 ys) (hx:xs[k1]?=some x) (hy:ys[k2]?=some y)
  (hQ:∀h',IsZip h' z TI TO (rawInt s.heap.objs.size)->IsPair h' TO x y->Oc b1 h' i1 l1 (k1+1)->Oc b2 h' i2 l2 (k2+1)->IsPair h' s.heap.objs.size x y->h'.objs.size=s.heap.objs.size+1->
   (∀c o,c≠z->c≠TO->c≠i1->c≠i2->s.heap.get? c=some o->h'.get? c=some o)->Q (.ref s.heap.objs.size) {s with heap:=h'}) :
  wpAny (model prog w) A (Builtin.«zip.__next__» ⟨[.ref z],[]⟩) (fun F' s'=>∃v,F'=.done (.ret v)/\Q v s') E s:=by
 show wpAny _ _ (field (.ref z) 2>>=_) _ _ s;refine a_ (j_ hz rfl (x:=.bool false) rfl ?_);show wpAny _ _ (field (.ref z) 3>>=_) _ _ s;refine a_ (j_ hz rfl (x:=.ref TI) rfl ?_);refine a_ (G_ US rfl ?_);show wpAny _ _ (Builtin.SmallTypes.ownedTupleIsFree (.ref z)>>=_) _ _ s;refine a_ ?_;unfold Builtin.SmallTypes.ownedTupleIsFree;refine a_ (j_ hz rfl (x:=.none) rfl (c_ ?_));show wpAny _ _ (rule "zip.__next__.owned-tuple-again" >>= _) _ _ s;refine a_ (wpAny_rule (a_ (j_ hz rfl (x:=.ref TO) rfl ?_)));show wpAny _ _ (setField (.ref z) 0 .ellipsis>>=_) _ _ s;refine a_ (v_ hz rfl (by simp) ?_);have u1:=n_ s.heap z (Obj.mapFields fun K'=>K'.setIfInBounds 0 Value.ellipsis);have z1:=i_ (Obj.mapFields fun K'=>K'.setIfInBounds 0 Value.ellipsis) hz rfl;generalize s.heap.update z (Obj.mapFields fun K'=>K'.setIfInBounds 0 Value.ellipsis)=YY at*;show wpAny _ _ (forIn [(Value.ref i1,0),(Value.ref i2,1)] _ _>>=_) _ _ _;refine a_ ?_;rw[H_];refine a_ ?_;show wpAny _ _ (Sem.onRaise _ _>>=_) _ _ _;refine a_ (RQ ?_);show wpAny _ _ (Builtin.SmallTypes.nextOf (.ref i1)>>=_) _ _ _;have e1:∀c o,c≠z->s.heap.get? c=some o->YY.get? c=some o:=fun c o n q=>(u1.2 c n).trans q;refine a_ (Pb (h1.at fun o q=>e1 _ o D.i1z q) (q1.at fun o q=>e1 _ o D.l1z q) hx fun VT it2 u2=>c_ ?_);dsimp only at u2;have e2:∀c o,c≠z->c≠i1->s.heap.get? c=some o->VT.get? c=some o:=fun c o n n' q=>(u2.2 c n').trans (e1 c o n q);have o2:VT.get? TO=some {cls:=.type "tuple",data:=.seq #[a,b]}:=e2 _ _ D.TOz D.TOi1 U';show wpAny _ _ (seqItems? (.ref TO)>>=_) _ _ _;refine a_ (G_ o2 rfl ?_);show wpAny _ _ (updateSeq TO _>>=_) _ _ _;refine a_ (wpAny_updateSeq o2 rfl ?_ N5 (by show 2<=sizeLine+1;decide));refine a_ (wpAny_letGo (c_ ?_));have u3:=n_ VT TO (Obj.mapSeq fun K'=>K'.setIfInBounds 0 x);have o3:=i_ (Obj.mapSeq fun K'=>K'.setIfInBounds 0 x) o2 rfl;generalize VT.update TO (Obj.mapSeq fun K'=>K'.setIfInBounds 0 x)=Yi at*;have e3:∀c o,c≠z->c≠TO->c≠i1->s.heap.get? c=some o->Yi.get? c=some o:=fun c o n n' n2 q=>(u3.2 c n').trans (e2 c o n n2 q);show wpAny _ _ (forIn [(Value.ref i2,1)] _ _) _ _ _;rw[H_];refine a_ ?_;show wpAny _ _ (Sem.onRaise _ _>>=_) _ _ _;refine a_ (RQ ?_);show wpAny _ _ (Builtin.SmallTypes.nextOf (.ref i2)>>=_) _ _ _;refine a_ (Pb (h2.at fun o q=>e3 _ o D.i2z D.TOi2.symm D.i12.symm q) (q2.at fun o q=>e3 _ o D.l2z D.l2TO D.l2i1 q) hy fun hp4 it4 u4=>c_ ?_);dsimp only at u4;have o4:=(u4.2 TO D.TOi2).trans o3;show wpAny _ _ (seqItems? (.ref TO)>>=_) _ _ _;refine a_ (G_ o4 rfl ?_);show wpAny _ _ (updateSeq TO _>>=_) _ _ _;refine a_ (wpAny_updateSeq o4 rfl ?_ N5 (by show 2<=sizeLine+1;decide));refine a_ (wpAny_letGo (c_ ?_));have u5:=n_ hp4 TO (Obj.mapSeq fun K'=>K'.setIfInBounds 1 y);have o5:=i_ (Obj.mapSeq fun K'=>K'.setIfInBounds 1 y) o4 rfl;generalize hp4.update TO (Obj.mapSeq fun K'=>K'.setIfInBounds 1 y)=hp5 at*;have e5:∀c o,c≠z->c≠TO->c≠i1->c≠i2->s.heap.get? c=some o->hp5.get? c=some o:=fun c o n n' n2 n3 q=>(u5.2 c n').trans ((u4.2 c n3).trans (e3 c o n n' n2 q));show wpAny _ _ (forIn [] _ _) _ _ _;rw[List.forIn_nil];refine c_ ?_;show wpAny _ _ (seqItems? (.ref TO)>>=_) _ _ _;refine a_ (G_ o5 rfl ?_);show wpAny _ _ (newTuple [x,y]>>=_) _ _ _;refine a_ (wpAny_newTuple ?_ N5);have sz:hp5.objs.size=s.heap.objs.size:=by rw[u5.1,u4.1,u3.1,u2.1,u1.1]
 have z5:hp5.get? z=some {cls:=.type "zip",data:=.fields #[.ellipsis,.bool false,.bool false,.ref TI,.ref TO]}:=(u5.2 z D.TOz.symm).trans ((u4.2 z D.i2z.symm).trans ((u3.2 z D.TOz.symm).trans ((u2.2 z D.i1z.symm).trans z1)));have z6:=JQ {cls:=Value.type "tuple",data:=Data.seq [x,y].toArray} z5;have p6:=Ki hp5 (o:={cls:=Value.type "tuple",data:=Data.seq [x,y].toArray}) rfl;have k6:∀c o,hp5.get? c=some o->(hp5.push {cls:=Value.type "tuple",data:=Data.seq [x,y].toArray}).get? c=some o:=fun c o q=>JQ _ q;have s6:(hp5.push {cls:=Value.type "tuple",data:=Data.seq [x,y].toArray}).objs.size=hp5.objs.size+1:=Lg ..;generalize hp5.push {cls:=Value.type "tuple",data:=Data.seq [x,y].toArray}=hp6 at*;have zs:z≠hp5.objs.size:=Kq (Ka z5);have t5:hp5.get? TO=some {cls:=.type "tuple",data:=.seq #[x,y]}:=o5;show wpAny _ _ (Builtin.SmallTypes.ownedTupleHandOut (.ref z) (.ref hp5.objs.size)>>=_) _ _ _;refine a_ ?_;show wpAny _ _ (setField (.ref z) 0 (rawInt hp5.objs.size)>>=_) _ _ _;refine a_ (v_ z6 rfl (by simp) ?_);have u7:=n_ hp6 z (Obj.mapFields fun K'=>K'.setIfInBounds 0 (rawInt hp5.objs.size));have z7:=i_ (Obj.mapFields fun K'=>K'.setIfInBounds 0 (rawInt hp5.objs.size)) z6 rfl;generalize hp6.update z (Obj.mapFields fun K'=>K'.setIfInBounds 0 (rawInt hp5.objs.size))=Wt at*;refine v_ z7 rfl (by simp[Obj.mapFields]) ?_;have u8:=n_ Wt z (Obj.mapFields fun K'=>K'.setIfInBounds 1 (.bool false));have z8:=i_ (Obj.mapFields fun K'=>K'.setIfInBounds 1 (.bool false)) z7 rfl;generalize Wt.update z (Obj.mapFields fun K'=>K'.setIfInBounds 1 (.bool false))=hp8 at*;have k8:∀c o,c≠z->hp5.get? c=some o->hp8.get? c=some o:=fun c o n q=>(u8.2 c n).trans ((u7.2 c n).trans (k6 c o q));refine c_ ⟨_,rfl,?_⟩;show Q (.ref hp5.objs.size) _;rw[sz]at p6 z8 zs s6⊢;refine hQ hp8 z8 (k8 _ _ D.TOz t5) ?_ ?_ ((u8.2 _ zs.symm).trans ((u7.2 _ zs.symm).trans p6)) (by rw[u8.1,u7.1,s6]) fun c o n1 n2 n3 n4 q=>k8 c o n1 (e5 c o n1 n2 n3 n4 q)
 ·refine it2.at fun o q=>k8 _ o D.i1z ?_;exact(u5.2 _ D.TOi1.symm).trans ((u4.2 _ D.i12).trans ((u3.2 _ D.TOi1.symm).trans q))
 ·refine it4.at fun o q=>k8 _ o D.i2z ?_;exact(u5.2 _ D.TOi2.symm).trans q
def QG(hh:A.handled=none)(D:ZipApart z TI TO i1 i2 l1 l2)(hz:IsZip s.heap z TI TO .none)(US:IsPair s.heap TI (.ref i1) (.ref i2))(U':IsPair s.heap TO a b)
  (h1:Oc b1 s.heap i1 l1 k1) (h2:Oc b2 s.heap i2 l2 k2) (q1:Oj b1 s.heap l1 xs) (q2:Oj b2 s.heap l2 ys) (hx:xs[k1]?=none)
  (hE:∀h' e,(∀c o,c≠z->c≠TO->c≠i1->c≠i2->s.heap.get? c=some o->h'.get? c=some o)->(∃o,h'.get? e=some o/\o.cls=.type "StopIteration")->E (.ref e) {s with heap:=h'}) :
  wpAny (model prog w) A (Builtin.«zip.__next__» ⟨[.ref z],[]⟩) Q E s:=by
 show wpAny _ _ (field (.ref z) 2>>=_) _ _ s;refine a_ (j_ hz rfl (x:=.bool false) rfl ?_);show wpAny _ _ (field (.ref z) 3>>=_) _ _ s;refine a_ (j_ hz rfl (x:=.ref TI) rfl ?_);refine a_ (G_ US rfl ?_);show wpAny _ _ (Builtin.SmallTypes.ownedTupleIsFree (.ref z)>>=_) _ _ s;refine a_ ?_;unfold Builtin.SmallTypes.ownedTupleIsFree;refine a_ (j_ hz rfl (x:=.none) rfl (c_ ?_));show wpAny _ _ (rule "zip.__next__.owned-tuple-again" >>= _) _ _ s;refine a_ (wpAny_rule (a_ (j_ hz rfl (x:=.ref TO) rfl ?_)));show wpAny _ _ (setField (.ref z) 0 .ellipsis>>=_) _ _ s;refine a_ (v_ hz rfl (by simp) ?_);have u1:=n_ s.heap z (Obj.mapFields fun K'=>K'.setIfInBounds 0 Value.ellipsis);have z1:=i_ (Obj.mapFields fun K'=>K'.setIfInBounds 0 Value.ellipsis) hz rfl;generalize s.heap.update z (Obj.mapFields fun K'=>K'.setIfInBounds 0 Value.ellipsis)=YY at*;show wpAny _ _ (forIn [(Value.ref i1,0),(Value.ref i2,1)] _ _>>=_) _ _ _;refine a_ ?_;rw[H_];refine a_ ?_;show wpAny _ _ (Sem.onRaise _ _>>=_) _ _ _;refine a_ (RQ ?_);show wpAny _ _ (Builtin.SmallTypes.nextOf (.ref i1)>>=_) _ _ _;have e1:∀c o,c≠z->s.heap.get? c=some o->YY.get? c=some o:=fun c o n q=>(u1.2 c n).trans q;refine a_ (Qm hh (h1.at fun o q=>e1 _ o D.i1z q) (q1.at fun o q=>e1 _ o D.l1z q) hx fun VT e u2 ex=>?_);dsimp only at u2;obtain⟨ox,hox,cx⟩:=ex;have z2:=u2 _ _ D.i1z.symm z1;refine v_ z2 rfl (by simp[Obj.mapFields]) ?_;have u3:=n_ VT z (Obj.mapFields fun K'=>K'.setIfInBounds 0 .none);have ez:e≠z:=by
  rintro rfl;rw[hox]at z2;cases z2;have cx':Value.type "zip"=Value.type "StopIteration":=cx;injection cx' with q;exact absurd q zd
 generalize VT.update z (Obj.mapFields fun K'=>K'.setIfInBounds 0 .none)=Yi at*;exact hE Yi e (fun c o n1 n2 n3 n4 q=>(u3.2 c n1).trans (u2 c o n3 (e1 c o n1 q))) ⟨ox,(u3.2 e ez).trans hox,cx⟩
end
end
open Sem (wp)
open PySem.Spec PyProof.Rows
def QS(b:Bool)(l:Ts):Obj:={cls:=.type (if b then "tuple_iterator" else "list_iterator"),data:=.fields #[.ref l,.int 0 0]}
def zB(h:Heap)(b1 b2:Bool)(l1 l2:Ts):Heap:=((((h.push (QS b1 l1)).push (QS b2 l2)).push {cls:=.type "tuple",data:=.seq #[.ref h.objs.size,.ref (h.objs.size+1)]}).push {cls:=.type "tuple",data:=.seq #[.none,.none]}).push
 {cls:=.type "zip",data:=.fields #[.none,.bool false,.bool false,.ref (h.objs.size+2),.ref (h.objs.size+3)]}
def P8{prog:Tv}{w:Tw}{A:Tz}{E:Tr->Tu->Prop}{s:Tu}{b:Bool}{l:Ts}{Me:Array Tr}{Q:Tr->Tu->Prop}(h:Oj b s.heap l Me)(hQ:Q (.ref s.heap.objs.size) {s with heap:=s.heap.push (QS b l)}):wpAny (model prog w) A (pyIter (.ref l)) Q E s:=by
 cases b with
 |true=>exact Rh h hQ
 |false=>exact RZ h hQ
def QI(b1 b2:Bool)(l1 l2:Ts)(xs ys:Array Tr):Meets (Builtin.«zip.__new__» ⟨[.type "zip",.ref l1,.ref l2],[]⟩) (fun _ R s=>
  Oj b1 s.heap l1 xs/\Oj b2 s.heap l2 ys/\R (.ok (.ret (.ref (s.heap.objs.size+4)))) {s with heap:=zB s.heap b1 b2 l1 l2}):=
 .of_wp fun prog w A R s WP=>by
  rcases s with⟨hp,gs,dr,tk,sys⟩;obtain⟨q1,q2,V'⟩:=WP;have under:=sub_zip;have i1:=fun{A:Tz}{E Q}=>@P8 prog w A E ⟨hp,gs,dr,tk,sys⟩ b1 l1 xs Q q1;have i2:=fun{A:Tz}{E Q}=>@P8 prog w A E ⟨hp.push (QS b1 l1),gs,dr,tk,sys⟩ b2 l2 ys Q (q2.at fun o q=>JQ _ q)
  wp_walk using i1,i2
  refine⟨_,rfl,?_⟩;have sz:∀(h:Heap)o,(h.push o).objs.size=h.objs.size+1:=fun _ _=>Lg ..;simp only[zB]at V';simp only[sz];exact V'
variable{xs ys:Array Tr}{l1 l2:Ts}{b1 b2:Bool}{s:Tu}
def QT{prog:Tv}{w:Tw}{A:Tz}{E:Tr->Tu->Prop}{Q:Tr->Tu->Prop}(q1:Oj b1 s.heap l1 xs)(q2:Oj b2 s.heap l2 ys)
  (h:∀h',IsZip h' (s.heap.objs.size+4) (s.heap.objs.size+2) (s.heap.objs.size+3) .none->IsPair h' (s.heap.objs.size+2) (.ref s.heap.objs.size) (.ref (s.heap.objs.size+1))->IsPair h' (s.heap.objs.size+3) .none .none->Oc b1 h' s.heap.objs.size l1 0->Oc b2 h' (s.heap.objs.size+1) l2 0->
   (∀c o,s.heap.get? c=some o->h'.get? c=some o)->Q (.ref (s.heap.objs.size+4)) {s with heap:=h'}):wpAny (model prog w) A (call (.type "zip") [.ref l1,.ref l2]) Q E s:=by
 have sz:∀(h:Heap)o,(h.push o).objs.size=h.objs.size+1:=fun _ _=>Lg ..;have g0:∀(h:Heap)(o:Obj)(n:Nat),h.objs.size=n->o.isFreed=false->(h.push o).get? n=some o:=fun h o n e f=>e▸Ki h f;have a1:IsZip (zB s.heap b1 b2 l1 l2) (s.heap.objs.size+4) (s.heap.objs.size+2) (s.heap.objs.size+3) .none:=g0 _ _ _ (by simp only[sz]) rfl;have a2:IsPair (zB s.heap b1 b2 l1 l2) (s.heap.objs.size+2) (.ref s.heap.objs.size) (.ref (s.heap.objs.size+1)):=JQ _ (JQ _ (g0 _ _ _ (by simp only[sz]) rfl));have a3:IsPair (zB s.heap b1 b2 l1 l2) (s.heap.objs.size+3) .none .none:=JQ _ (g0 _ _ _ (by simp only[sz]) rfl);have f0:∀b l,(QS b l).isFreed=false:=fun _ _=>rfl;have a4:(zB s.heap b1 b2 l1 l2).get? s.heap.objs.size=some (QS b1 l1):=JQ _ (JQ _ (JQ _ (JQ _ (g0 _ _ _ rfl (f0 _ _)))));have a5:(zB s.heap b1 b2 l1 l2).get? (s.heap.objs.size+1)=some (QS b2 l2):=JQ _ (JQ _ (JQ _ (g0 _ _ _ (by simp only[sz]) (f0 _ _))));have a6:∀c o,s.heap.get? c=some o->(zB s.heap b1 b2 l1 l2).get? c=some o:=fun c o q=>JQ _ (JQ _ (JQ _ (JQ _ (JQ _ q))));have ib:∀(b:Bool)(h:Heap)(a l:Ts),h.get? a=some (QS b l)->Oc b h a l 0:=fun b h a l q=>by
  cases b with
  |true=>exact⟨_,q,rfl,rfl⟩
  |false=>exact⟨_,q,rfl,rfl⟩
 refine callType_new F.called_zip zd (F.typeCall_zip_2 _ _) (F.newCall_zip_2 _ _) (fun x=>F.args_object_init_3 x _ _) F.entry_zip_new (QI b1 b2 l1 l2 xs ys) ⟨q1,q2,?_⟩;exact⟨⟨_,a1,rfl⟩,h _ a1 a2 a3 (ib _ _ _ _ a4) (ib _ _ _ _ a5) a6⟩
def OZ{prog:Tv}{w:Tw}{A:Tz}{E:Tr->Tu->Prop}{b1 b2:Bool}{z TI TO i1 i2 l1 l2:Ts}{k1 k2:Nat}{xs ys:Array Tr}{x y a b:Tr}{Q:Option Tr->Tu->Prop}(D:ZipApart z TI TO i1 i2 l1 l2)(hz:IsZip s.heap z TI TO .none)(US:IsPair s.heap TI (.ref i1) (.ref i2))(U':IsPair s.heap TO a b)
  (h1:Oc b1 s.heap i1 l1 k1) (h2:Oc b2 s.heap i2 l2 k2) (q1:Oj b1 s.heap l1 xs) (q2:Oj b2 s.heap l2 ys) (hx:xs[k1]?=some x) (hy:ys[k2]?=some y)
  (hQ:∀h',IsZip h' z TI TO (rawInt s.heap.objs.size)->IsPair h' TO x y->Oc b1 h' i1 l1 (k1+1)->Oc b2 h' i2 l2 (k2+1)->IsPair h' s.heap.objs.size x y->h'.objs.size=s.heap.objs.size+1->
   (∀c o,c≠z->c≠TO->c≠i1->c≠i2->s.heap.get? c=some o->h'.get? c=some o)->Q (some (.ref s.heap.objs.size)) {s with heap:=h'}):wpAny (model prog w) A (pyNext (.ref z)) Q E s:=by
 have hT:s.TypeIs (.ref z) "zip":=⟨_,hz,rfl⟩;unfold pyNext;refine a_ (Re (u_ (name:=Str.ofString "__next__") hT N_ (I_ N_ hT PySem.F.entry_zip_next ?_ (PySem.F.args_zip_next_1 _))));refine Qq (A:=A.in1) D hz US U' h1 h2 q1 q2 hx hy fun h' c1 c2 c3 c4 c5 c6 c7=>?_;exact c_ (hQ h' c1 c2 c3 c4 c5 c6 c7)
def O2{prog:Tv}{w:Tw}{A:Tz}{E:Tr->Tu->Prop}{b1 b2:Bool}{z TI TO i1 i2 l1 l2:Ts}{k1 k2:Nat}{xs ys:Array Tr}{a b:Tr}{Q:Option Tr->Tu->Prop}(hh:A.handled=none)(D:ZipApart z TI TO i1 i2 l1 l2)(hz:IsZip s.heap z TI TO .none)(US:IsPair s.heap TI (.ref i1) (.ref i2))(U':IsPair s.heap TO a b)
  (h1:Oc b1 s.heap i1 l1 k1) (h2:Oc b2 s.heap i2 l2 k2) (q1:Oj b1 s.heap l1 xs) (q2:Oj b2 s.heap l2 ys) (hx:xs[k1]?=none)
  (hQ:∀h',(∀c o,c≠z->c≠TO->c≠i1->c≠i2->s.heap.get? c=some o->h'.get? c=some o)->Q none {s with heap:=h'}):wpAny (model prog w) A (pyNext (.ref z)) Q E s:=by
 have hT:s.TypeIs (.ref z) "zip":=⟨_,hz,rfl⟩;unfold pyNext;refine a_ (Re (u_ (name:=Str.ofString "__next__") hT N_ (I_ N_ hT PySem.F.entry_zip_next ?_ (PySem.F.args_zip_next_1 _))));refine QG (A:=A.in1) (show A.in1.handled=none from hh) D hz US U' h1 h2 q1 q2 hx fun h' e k ex=>?_;obtain⟨o,ho,hc⟩:=ex;refine a_ (wpAny_isInstance (T:="StopIteration") (b:=true) ⟨o,ho,hc⟩ isSubtype_stop ?_);exact c_ (hQ _ k)
end PySem
namespace L2
open PySem PySem.Spec PyProof.Rows
def wZ(K:ZF):Bool->Hp->Ts->TQ->Prop
 |true=>NY K
 |false=>N0 K
def NX.seqB(I:NX X pins σ H s)(h:wZ X.K b H l xs):∃f',N2 xs f'/\Oj b s.heap l f'.toArray:=by
 cases b with
 |true=>exact(let⟨f',r,p,_⟩:=I.tuple h;let⟨o,a,b,n,c⟩:=p;⟨f',r,o,a,b,n,c⟩)
 |false=>exact(let⟨f',r,p,_⟩:=I.list h;⟨f',r,p.isList⟩)
def NX.seqB_inj(I:NX X pins σ H s)(h:wZ X.K b H l xs)(h':wZ X.K b H l ys):xs=ys:=by
 cases b with
 |true=>exact I.tuple_inj h h'
 |false=>exact I.list_inj h h'
def rJ(a:Oj b h l xs):l<h.objs.size:=by
 cases b with
 |true=>exact(let⟨_,e,_⟩:=a;Ka e)
 |false=>exact(let⟨_,e,_⟩:=a;Ka e)
def EV(K:ZF)(b1 b2:Bool)(l1 l2:Ts):It:=
 ⟨fun i H=>∃xs ys x y,wZ K b1 H l1 xs/\wZ K b2 H l2 ys/\xs[i]?=some x/\ys[i]?=some y,
  fun i H v H'=>∃T x y,v=.ref T/\H T=none/\H'=aI H T (.tup [x,y])/\(∀xs,wZ K b1 H l1 xs->xs[i]?=some x)/\∀ys,wZ K b2 H l2 ys->ys[i]?=some y,
  fun i H=>∃xs ys,wZ K b1 H l1 xs/\wZ K b2 H l2 ys/\xs.length<=i⟩
def w6{b1 b2:Bool}{P:Tv}{w:Tw}{K:ZF}{Uo:List Expr}{kt:Nat}{tp:Pos}{z TI TO i1 i2 l1 l2:Ts}(D:ZipApart z TI TO i1 i2 l1 l2):
  oH P w K (.Tuple Uo kt tp) (EV K b1 b2 l1 l2) [z,TI,TO,i1,i2] z (fun i h=>IsZip h z TI TO .none/\IsPair h TI (.ref i1) (.ref i2)/\(∃a b,IsPair h TO a b)/\Oc b1 h i1 l1 i/\Oc b2 h i2 l2 i) where
 mem:=by simp
 obj:=fun i h st b hb=>by
  obtain⟨hz,US,⟨a,c,U'⟩,i1',i2'⟩:=st;obtain⟨o1,h1,d1⟩:=i1'.some;obtain⟨o2,h2,d2⟩:=i2'.some;simp at hb;rcases hb with rfl|rfl|rfl|rfl|rfl
  ·exact⟨_,hz,fun v q=>by cases q⟩
  ·exact⟨_,US,fun v q=>by cases q⟩
  ·exact⟨_,U',fun v q=>by cases q⟩
  ·exact⟨_,h1,fun v q=>d1 v q⟩
  ·exact⟨_,h2,fun v q=>d2 v q⟩
 keep:=fun i h h' st k=>by
  obtain⟨hz,US,⟨a,c,U'⟩,h1,h2⟩:=st;exact⟨k z (by simp) _ hz,k TI (by simp) _ US,⟨a,c,k TO (by simp) _ U'⟩,h1.at fun o e=>k i1 (by simp) o e,h2.at fun o e=>k i2 (by simp) o e⟩
 item:=by
  walk_at "r";obtain⟨xs,ys,x,y,hx,hy,ex,ey⟩:=hg;obtain⟨hz,US,⟨a,c,U'⟩,h1,h2⟩:=st;obtain⟨T_,Vj,p1⟩:=I.seqB hx;obtain⟨VC,Z4,p2⟩:=I.seqB hy;obtain⟨u1,VY,YJ⟩:=Vj.get ex;obtain⟨u2,eu2,ru2⟩:=Z4.get ey;refine OZ D hz US U' h1 h2 p1 p2 (x:=u1) (y:=u2) (by simpa using VY) (by simpa using eu2) fun h' a1 a2 a3 a4 a5 a6 a7=>⟨_,rfl,?_⟩;refine wpAny_letOwnedTupleGo_zip a1 fun UT b1 b2=>?_;have hT:H s.heap.objs.size=none:=I.hok.fresh (J2 _);have Vk:∀b o,s.heap.get? b=some o->b≠s.heap.objs.size:=fun b o e=>Kq (Ka e);refine⟨.ref s.heap.objs.size,aI H s.heap.objs.size (.tup [x,y]),?_,rfl,⟨s.heap.objs.size,x,y,rfl,hT,rfl,fun xs' h=>by rw[I.seqB_inj h hx];exact ex,fun Ut h=>by rw[I.seqB_inj h hy];exact ey⟩,?_,fun b hb=>?_⟩
  ·show NX X pins σ (aI H s.heap.objs.size (.tup [x,y])) {s with heap:=UT,toks:=s.toks};refine NX.turnedS (s:=s) (h':=UT) (t':=s.toks) (ch:=[z,TO,i1,i2]) I (fun b hb=>hf b ?_) (fun b o hc e=>?_) (fun b o e=>by rw[am (az e hT)];exact e) (fun b hb n=>by rw[am (Kq hb)];exact n) fun b o n e=>?_
   ·simp at hb⊢;rcases hb with rfl|rfl|rfl|rfl<;>simp
   ·simp at hc;exact b2.extBut b o hc.1 (a7 b o hc.1 hc.2.1 hc.2.2.1 hc.2.2.2 e)
   ·by_cases eb:b=s.heap.objs.size
    ·subst eb;rw[ae]at e;cases e;refine⟨N5,[u1,u2],.cons YJ (.cons ru2 .nil),_,b2.extBut _ _ ?_ a5,rfl,_,rfl⟩;exact fun q=>Vk z _ hz q.symm
    ·rw[am eb,n]at e;cases e
  ·refine⟨b1,b2.extBut _ _ D.TIz (a7 _ _ D.TIz D.TITO D.TIi1 D.TIi2 US),⟨_,_,b2.extBut _ _ D.TOz a2⟩,a3.at fun o e=>b2.extBut _ o D.i1z e,a4.at fun o e=>b2.extBut _ o D.i2z e⟩
  ·have n:=(hf b hb).1;have:b≠s.heap.objs.size:=by
    simp at hb;obtain⟨_,q1,_⟩:=h1.some;obtain⟨_,q2,_⟩:=h2.some;rcases hb with rfl|rfl|rfl|rfl|rfl
    ·exact Vk _ _ hz
    ·exact Vk _ _ US
    ·exact Vk _ _ U'
    ·exact Vk _ _ q1
    ·exact Vk _ _ q2
   rw[am this];exact n
 done:=by
  walk_at "r";obtain⟨xs,ys,hx,hy,hl⟩:=hg;obtain⟨hz,US,⟨a,c,U'⟩,h1,h2⟩:=st;obtain⟨T_,Vj,p1⟩:=I.seqB hx;obtain⟨VC,Z4,p2⟩:=I.seqB hy;have e1:=Vj.length;have e2:=Z4.length;have XU:T_.toArray[i]?=none:=by simp;lia
  refine O2 (I.ok.hd hc) D hz US U' h1 h2 p1 p2 XU fun h' k=>⟨rfl,?_⟩;refine I.turnedS (t':=s.toks) (ch:=[z,TO,i1,i2]) (fun b hb=>hf b ?_) (fun b o hc e=>?_) (fun b o e=>e) (fun b hb n=>n) fun b o n e=>?_
  ·simp at hb⊢;rcases hb with rfl|rfl|rfl|rfl<;>simp
  ·simp at hc;exact k b o hc.1 hc.2.1 hc.2.2.1 hc.2.2.2 e
  ·rw[n]at e;cases e
 self:=fun _ _ _ _ _ st h=>wpAny_pyIter_zip st.1 h
section
inductive zm(b1:Bool)(b2:Bool)(K:ZF)(R:It->Hp->Prop)(vs:TQ)(H1:Hp):Prop
 |mk(l1 l2:_):vs=[.ref l1,.ref l2]->(∃xs,wZ K b1 H1 l1 xs)->(∃ys,wZ K b2 H1 l2 ys)->R (EV K b1 b2 l1 l2) H1->zm b1 b2 K R vs H1
def G1(b1 b2:Bool)(K:ZF)(ta:TA):TI:=fun σ H R=>ta σ H fun vs H1=>zm b1 b2 K R vs H1
def Ch(b1 b2:Bool){Uo:List Expr}{kt:Nat}{tp:Pos}{a b:Expr}{ta:TA}{p pos:Pos}(hg:Gl X "zip")(hm:X.mg "zip"=none)(ha:PA X [a,b] ta)(hs:starEach [a,b] X.env=[(false,eval a X.env),(false,eval b X.env)]:=by rfl)(Xq:starEach [b] X.env=[(false,eval b X.env)]:=by rfl):
  PI X (.Tuple Uo kt tp) (.Call (.Name "zip" p) [a,b] [] pos) (G1 b1 b2 X.K ta):=by
 refine⟨?_⟩;intro pins s σ H R I h;refine Call_ (iy I hg hm ym (Lc (bH (ha pos pins s σ H _ I h) fun us s1 hZZ=>?_) (by rw[hs,Xq]) (by rw[Xq];rfl)));obtain⟨vs,H1,I1,r1,q1⟩:=hZZ;obtain⟨l1,l2,e,⟨xs,hx⟩,⟨ys,hy⟩,q⟩:=q1;subst e;cases r1 with
 |cons r rr=>
  cases rr with
  |cons r' rr=>
   cases rr;cases r;cases r';obtain⟨T_,Vj,p1⟩:=I1.seqB hx;obtain⟨VC,Z4,p2⟩:=I1.seqB hy;refine QT p1 p2 fun h' a1 a2 a3 a4 a5 a7=>?_;refine wpAny_pyIter_zip a1 ?_;have lt1:=rJ p1;have lt2:=rJ p2;refine⟨_,[s1.heap.objs.size+4,s1.heap.objs.size+2,s1.heap.objs.size+3,s1.heap.objs.size,s1.heap.objs.size+1],_,_,H1,rfl,I1.kept (t':=s1.toks) a7,w6 (PyProof.Rows.zipApart_new lt1 lt2),⟨a1,a2,⟨_,_,a3⟩,a4,a5⟩,fun b hb=>?_,q⟩;have Ub:s1.heap.objs.size<=b:=by
    simp only[J0,Kc,l_]at hb;rcases hb with e|e|e|e|e<;>rw[e]
    ·exact E_ _ _
    ·exact E_ _ _
    ·exact E_ _ _
    ·exact J2 _
    ·exact E_ _ _
   exact I1.fpOk Ub (I1.hok.fresh Ub)
end
def Ci{b1 b2:Bool}{K:ZF}{l1 l2:Ts}{xs ys:TQ}{g:TG}{tf:TT}{te:TE}{ix:List (Option Nat)}{σ:St}{H:Hp}{Q:VK}(hxy:xs.length=ys.length)(Pv:Nat->TQ->Hp->Prop)(h0:Pv 0 [] H)
  (hl:∀i Ut H,i<=xs.length->Pv i Ut H->wZ K b1 H l1 xs/\wZ K b2 H l2 ys/\Ut.length<=sizeLine)
  (hs:∀i x y Ut H T,xs[i]?=some x->ys[i]?=some y->H T=none->Pv i Ut H->g (.ref T) (qv ix σ) (aI H T (.tup [x,y])) fun σ2 H2=>O4 (qv ix σ) σ2/\tf σ2 H2 fun b H3=>if b=true then te σ2 H3 fun y H4=>Nx Pv xs.length i (Ut++[y]) H4 else Nx Pv xs.length i Ut H3)
  (hd:∀Ut H,Pv xs.length Ut H->∀D,H D=none->Q (.ref D) (aI H D (.lst Ut))):wE (EV K b1 b2 l1 l2) g tf te ix σ H Q:=by
 refine⟨fun i m Ut H=>m=xs.length-i/\i<=xs.length/\Pv i Ut H,⟨xs.length,by simp,KO _,h0⟩,?_⟩;rintro i m Ut H ⟨rfl,hi,p⟩;obtain⟨q1,q2,hz⟩:=hl i Ut H hi p;by_cases Md:i<xs.length
 ·have hlt2:i<ys.length:=by lia
  refine .inr ⟨⟨xs,ys,xs[i],ys[i],q1,q2,by simp[Md],by simp[hlt2]⟩,hz,fun x H' y=>?_⟩;obtain⟨T,x1,y1,rfl,hT,rfl,ex,ey⟩:=y;exact hs i x1 y1 Ut H T (ex xs q1) (ey ys q2) hT p
 ·have e:i=xs.length:=by lia
  subst e;exact .inl ⟨⟨xs,ys,q1,q2,J2 _⟩,hz,hd Ut H p⟩
section
def rK(c:Nat):∀(n:Nat)(UE:Array Nat),(List.foldl (fun(x1 x2:Array Nat)=>x1++x2) UE (List.replicate n #[c]))=UE++(List.replicate n c).toArray
 |0,UE=>by simp
 |n+1,UE=>by
  rw[List.replicate_succ,List.foldl_cons,rK c n];apply Array.ext';simp[List.replicate_succ]
def Cj:fv X (binaryOp .Mult) (fun x y H Q=>∃(c n:Nat),x=.str (S [c])/\y=.int n/\n<=1000/\Q (.str (S (List.replicate n c))) H):=by
 walk_at "t";obtain⟨c,n,rfl,rfl,hn,q⟩:=h;obtain⟨t,rfl⟩:=rx;obtain⟨t2,rfl⟩:=ry;refine PySem.P.mul_str ?_ ?_ ?_ ?_
 ·simp;lia
 ·intro _ _;have:(S [c]).length=1:=rfl;rw[this];intro Ua;have:(1:Int)<=(2^63-1) / (n:Int):=by
   rw[Int.le_ediv_iff_mul_le zo];lia
  lia
 ·intro _ _;have:(S [c]).length=1:=rfl;rw[this];unfold Builtin.Str.tooLong;walk_at "w"
  simp;lia
 ·have F':∀(z:Str)(t:Tok)(k:Nat),z=S (List.replicate n c)->EP X pins σ Q (.str z t) {s with toks:=k}:=fun z t k e=>by
   subst e;exact⟨.str (S (List.replicate n c)),H,I.tok k,⟨t,rfl⟩,q⟩
  have ZK:∀(z:Str),z=S (List.replicate n c)->(Made.str z).post (EP X pins σ Q) s:=fun z e=>by
   refine⟨?_,F' z _ _ e⟩;subst e;walk_at "w"
   rw[aG,Lm];lia
  by_cases h0:(n:Int)<1
  ·rw[g_ h0];refine ZK _ ?_;rw[show n=0 by lia];rfl
  ·rw[f_ h0];by_cases h1:((n:Int)==1||(S [c]).length==0)=true
   ·rw[g_ h1];have:n=1:=by
     have e:(S [c]).length=1:=rfl;rw[e]at h1;simp at h1;lia
    subst this;exact F' (S [c]) t s.toks rfl
   ·rw[f_ h1];refine ZK _ ?_;have:(S [c]).cps=#[c]:=rfl;rw[this,rK];simp[S]
end
section
variable{X:Cx}
inductive Dz(r:V->TQ->Hp->VK->Prop)(t:TA)(σ:St)(Q:VK)(x:V)(H1:Hp):Prop
 |mk(p xs:_):x=.ref p->H1 p=some (.tup xs)->(t σ H1 fun xs H2=>r x xs H2 Q)->Dz r t σ Q x H1
def IV(r:V->TQ->Hp->VK->Prop)(to:TE)(t:TA):TE:=fun σ H Q=>to σ H fun x H1=>Dz r t σ Q x H1
variable{o e:Expr}{es:List Expr}{to:TE}{t:TA}{name:Str}{B' S':Pos}{id:String}{r:V->TQ->Hp->VK->Prop}
def EW(pa:PlainAttrs "tuple")(slot:Slot "tuple" name id)(Xo:typeOf (.builtin id)=pure (.type "method_descriptor"))(hm:F9 X id r)(ho:PE X o to)(ha:PA X (e::es) t)
  (U1:attributeBase o name X.env (eval o X.env)=eval o X.env:=by rfl)
  (XT:((backTo S' (starEach (e::es) X.env)).all (fun x=>!x.1)&&(backToKw S' (keywordEach [] X.env)).all (fun x=>x.1.isSome)
   && decide ((e::es).length+([]:List Keyword).length+(if([]:List Keyword).isEmpty then 0 else 1)<30))=true:=by rfl)
  (UZ:(B'.endLine==S'.line)=true:=by rfl) (hs:starEach (e::es) X.env=(false,eval e X.env)::starEach es X.env:=by rfl) (Vf:(backTo S' (starEach es X.env)).any (·.1)=false:=by rfl) :
  PE X (.Call (.Attribute o name B') (e::es) [] S') (IV r to t):=by
 walk_at "p";refine wpAny_Call_method_late U1 XT UZ rfl (bH (ho pins s σ H _ I h) fun v s1 hZZ=>?_);obtain⟨x,H1,I1,r1,p,xs,ex,hp,q1⟩:=hZZ;subst ex;cases r1;obtain⟨_,f',rv,ob,g1,g2,n,g3⟩:=(show N7 X.prog X.w H1 s1.heap p (.tup xs)from I1.hok p _ hp);have gc:=(Rt g2).1;have gd:=(Rt g2).2;refine⟨"tuple",id,pa,slot,Xo,⟨ob,g1,gc⟩,fun a e=>?_,?_⟩
 ·cases e;exact⟨ob,g1,gd⟩
 have hA:=ha S' pins s1 σ H1 _ I1 q1;rw[hs]at hA⊢;refine LD (by show(false||(backTo S' (starEach es X.env)).any (·.1))=false;rw[Vf]<;>rfl) (Calls.evalArgs_plain ?_);exact bH hA fun us s2⟨vs,H2,I2,r2,q2⟩=>hm pins s2 σ H2 (.ref p) vs _ us Q I2 rfl r2 q2
end
end L2
namespace L3
open PySem L2
inductive EY(C:Ts)(xs:TQ)(H:Hp)(Q:VK)(Z3:XK):Prop
 |mk(l:TJ)(D:Fm):xs=[.str (S l)]->l.length<=20000->(TK.toks l).length<=1500->pH ((TK.toks l).map S) D->wY D->(∀v H',NV H H'->Oq C H' v D->Q v H')->EY C xs H Q Z3
def Ck(ts:List (TJ)):vs ts=al (ts.map S):=by
 unfold vs al;rw[K2];rfl
section
def IW:av [SQ] [SQ] (ak iI):=cV zk
def G3(F:Ob K "read_table" "read_table" iI f fd)(B:Bl mg)(hM:mg "MOST_SIGNS"=some (.int 20000 tM))(TO:Fn P w K mg base "tokens_of" 3 [SQ] tI)(RF:Fn P w K mg base "read_form" n [SE] tY)(TF:Fn P w K mg base "table_of_form" m ["form"] (EU C))(hn:3<=n)(hm:m<=n):NZ P w K mg base bZ (n+1) f fd [SQ] (EY C):=by
 have ZZ:=IW
 walk_at "o"
 ·obtain⟨l,D,rfl,hl,ht,hF,hO,q⟩:=h;have Uu:N1 3 _:=hr.mono zo;have VS:N1 m _:=hr.mono hm;walk_at "v"
  refine⟨_,af (aQ (PW.pt (dP (cr (bU (aC (dE (T:="str")) (by rfl) B.isinstance bP (aa (pv 0) (aa (ef (by rfl) B.str cH) ac))))) (c8 (ap nC (aC bN (by rfl) B.len Kt (aa (pv 0) ac)) (bi (v:=.int 20000) rfl hM ⟨_,rfl⟩))))) (aj da) aB)
   (aj (aq (ar TF VS rfl (aa (ar RF hr rfl (aa (ar TO Uu rfl (aa (pv 0) ac)) ac)) ac)))),?_⟩
  refine⟨_,rfl,_,_,_,rfl,.str _,rfl,_,rfl,bK ?_⟩;refine⟨_,rfl,S l,rfl,(by rw[aG];lia),_,_,rfl,rfl,_,rfl,be (d_ (by rw[aG];lia)) ?_⟩;refine⟨_,rfl,l,rfl,zo,fun p H1 np e1 s1=>?_⟩;rw[Ck]at e1;refine⟨p,_,D,rfl,e1,by rw[JY];exact ht,hF,fun u H2 s2 hu=>?_⟩;exact⟨u,D,rfl,hu,hO,fun v H3 s3 hv=>q v H3 (s1.trans (s2.trans s3)) hv⟩
end
abbrev pO:Stmt:=cJ jc 1
abbrev jY:Stmt:=cJ jc 2
abbrev zn:Stmt:=cJ jc 3
abbrev zp:Stmt:=cJ jc 4
inductive ia(C:Ts)(vs:TQ)(H:Hp)(Q:VK)(Z3:XK):Prop
 |mk(a dx:_)(D:Fm)(pp pm pn pk:_):vs=[.ref a]->H a=some (.ins C dx (Cf (.int D.width) (.int D.cells) (.int D.depth) (.ref pp) (.ref pm) (cD D) pn pk))->(∀p H',NV H H'->H' p=some (.tup [.int D.width,.int D.cells,.int D.depth,.ref pp,.ref pm,cD D,.ref pk])->Q (.ref p) H')->ia C vs H Q Z3
def rL{l:TH}(nd:l.Nodup){j:Nat}{z:Str}(h:l[j]?=some z):∀m,m<j->l[m]?≠some z:=by
 intro m hm e;have h1:=(JV.mp h).1;have h2:=(JV.mp h).2;have h3:=(JV.mp e).1;have h4:=(JV.mp e).2;exact List.pairwise_iff_getElem.mp nd m j h3 h1 hm (by rw[h2,h4])
def rM:∀{xs:List α}{ys:List β},Paired R xs ys->∀{i:Nat}{y:β},ys[i]?=some y->∃x,xs[i]?=some x/\R x y
 |_,_,.cons h t,0,y,e=>by
  simp at e;exact⟨_,rfl,e▸h⟩
 |_,_,.cons h t,i+1,y,e=>by
  obtain⟨x,a,b⟩:=rM t (i:=i) (y:=y) (by simpa using e);exact⟨x,by simpa using a,b⟩
def zq:∀{l:List α},x∈l->∃j:Nat,l[j]?=some x:=fun h=>let⟨j,hj,e⟩:=Rz h;⟨j,by rw[J1 hj,e]⟩
def Oq.same(h:Oq C H v D)(s:NV H H'):Oq C H' v D:=
 let⟨a,dx,pp,pm,pn,pk,us,e,b,c,d,f,g,i⟩:=h
 ⟨a,dx,pp,pm,pn,pk,us,e,s _ _ b,s _ _ c,s _ _ d,s _ _ f,s _ _ g,bF (fun _ _ h=>OI.kt (ao s) h) i⟩
section
def zr:av [R8,So] [R8,So] (ak pO):=cV zk
def IX:av [R8,So] [R8,So] (ak jY):=cV zk
def EZ:av [R8,So] [R8,So] (ak zn):=cV zk
def E3:av [R8] [R8] (ak zp):=cV zk
def zt(F:Ob K "told" "Table.told" zp f fd)(T:Tc K C):NZ P w K mg base bZ 1 f fd [R8] (ia C):=by
 have ZZ:=E3
 walk_at "o"
 ·obtain⟨a,dx,D,pp,pm,pn,pk,rfl,ho,q⟩:=h;refine⟨_,aj (aq (ay (aa (bS (pv 0) rfl) (aa (bS (pv 0) rfl) (aa (bS (pv 0) rfl) (aa (bS (pv 0) rfl) (aa (bS (pv 0) rfl) (aa (bS (pv 0) rfl) (aa (bS (pv 0) rfl) ac))))))))),?_⟩;refine⟨_,rfl,a,C,dx,_,_,rfl,ho,T.cl,T.na R_ zk,rfl,_,rfl,a,C,dx,_,_,rfl,ho,T.cl,T.na Se zk,rfl,_,rfl,a,C,dx,_,_,rfl,ho,T.cl,T.na Sh zk,rfl,_,rfl,a,C,dx,_,_,rfl,ho,T.cl,T.na Sa zk,rfl,_,rfl,a,C,dx,_,_,rfl,ho,T.cl,T.na Sg zk,rfl,_,rfl,a,C,dx,_,_,rfl,ho,T.cl,T.na Sx zk,rfl,_,rfl,a,C,dx,_,_,rfl,ho,T.cl,T.na Ss zk,rfl,N5,fun p np=>?_⟩;exact q p _ (ag np) ae
end
def cp(z:Str):TJ:=z.cps.toList
def fL(z:Str):S (cp z)=z:=(yC z).symm
def gr(l:TJ):cp (S l)=l:=rfl
def rN(l:TH):(l.map cp).map S=l:=by
 rw[K2];refine Eq.trans ?_ (List.map_id l);exact List.map_congr_left fun z _=>fL z
def gP(sep:TJ):∀ts:List (TJ),(S sep).join (ts.map S)=S (TK.jn sep ts)
 |[]=>rfl
 |[t]=>rfl
 |t::u::r=>by
  have ih:=gP sep (u::r);show S t++S sep++(S sep).join ((u::r).map S)=S (t++(sep++TK.jn sep (u::r)));rw[ih,bJ,bJ,KH]
def DA(c:Nat)(t u:TJ)(r:List (TJ)):c∈TK.jn [c] (t::u::r):=by
 show c∈t++([c]++TK.jn [c] (u::r));simp
def zu:∀{a b x y:TJ},c∉a->c∉b->a++(c::x)=b++(c::y)->a=b/\x=y
 |[],[],x,y,_,_,h=>by simpa using h
 |[],b::bs,x,y,_,hb,h=>by
  simp at h;exact absurd (h.1▸JW) hb
 |a::as,[],x,y,ha,_,h=>by
  simp at h;exact absurd (h.1▸JW) ha
 |a::as,b::bs,x,y,ha,hb,h=>by
  simp at h;obtain⟨h1,h2⟩:=h;obtain⟨h3,h4⟩:=zu (a:=as) (b:=bs) (fun z=>ha (JZ _ z)) (fun z=>hb (JZ _ z)) h2;exact⟨by rw[h1,h3],h4⟩
def zw:∀{a b:List (TJ)},a≠[]->b≠[]->(∀t∈a,c∉t)->(∀t∈b,c∉t)->TK.jn [c] a=TK.jn [c] b->a=b
 |[],_,h,_,_,_,_=>absurd rfl h
 |_,[],_,h,_,_,_=>absurd rfl h
 |[t],[u],_,_,_,_,h=>by
  have:t=u:=h;rw[this]
 |[t],u::v::r,_,_,ha,_,h=>by
  have h1:t=TK.jn [c] (u::v::r):=h;exact absurd (h1▸DA c u v r) (ha t JW)
 |t::s::q,[u],_,_,_,hb,h=>by
  have h1:TK.jn [c] (t::s::q)=u:=h;exact absurd (h1▸DA c t s q) (hb u JW)
 |t::s::q,u::v::r,_,_,ha,hb,h=>by
  have h1:t++(c::TK.jn [c] (s::q))=u++(c::TK.jn [c] (v::r)):=h;obtain⟨h2,h3⟩:=zu (ha t JW) (hb u JW) h1;have:=zw (a:=s::q) (b:=v::r) (by simp) (by simp) (fun z hz=>ha z (JZ _ hz)) (fun z hz=>hb z (JZ _ hz)) h3;rw[h2,this]
def zx(c:Nat)(ts:List (TJ))(h0:TK.jn [c] ts≠[])(hf:∀t∈ts,c∉t):Txt.split (S (TK.jn [c] ts)) (S [c])=ts.map S:=by
 have h1:=StrLaws.join_split (S (TK.jn [c] ts)) (S [c]);have h2:=StrLaws.split_free (S (TK.jn [c] ts)) c;have hS:(⟨#[c]⟩:Str)=S [c]:=rfl;rw[hS]at h2;generalize Txt.split (S (TK.jn [c] ts)) (S [c])=ps at h1 h2;have h3:=rN ps;rw[<-h3,gP]at h1;have h4:TK.jn [c] (ps.map cp)=TK.jn [c] ts:=by
  have:=e_ cp h1;rw[gr,gr]at this;exact this
 have n1:ps.map cp≠[]:=by
  intro e;rw[e]at h4;exact h0 h4.symm
 have n2:ts≠[]:=by
  intro e;rw[e]at h0;exact h0 rfl
 have h5:=zw n1 n2 (fun t ht=>by
  obtain⟨p,hp,rfl⟩:=Kr.mp ht;exact h2 p hp) hf h4
 rw[<-h5,h3]
def ud(sep:TJ):∀ts:List (TJ),(TK.jn sep ts).length<=(ts.map List.length).sum+ts.length*sep.length
 |[]=>by simp[TK.jn]
 |[t]=>by simp[TK.jn]
 |t::u::r=>by
  have ih:=ud sep (u::r);show(t++(sep++TK.jn sep (u::r))).length<=_;rw[JU,JU];simp only[Kd,Lz,JX]at ih⊢;have:(r.length+1+1)*sep.length=(r.length+1)*sep.length+sep.length:=by rw[Rw (r.length+1) 1,Rv]
  lia
def iO(k:Nat):∀ts:List (TJ),(∀t∈ts,t.length<=k)->(ts.map List.length).sum<=ts.length*k
 |[],_=>by simp
 |t::r,h=>by
  have ih:=iO k r (fun t ht=>h t (JZ _ ht));have:=h t JW;simp only[Kd,Lz,JX];have:(r.length+1)*k=r.length*k+k:=by rw[Rw,Rv]
  lia
def pP:(" ":Str)=S [32]:=by decide +kernel
def IY:("\n":Str)=S [10]:=by decide +kernel
def ic(h:i<2^25):((i:Nat):Int).natAbs.log2<1920:=by
 rw[Int.natAbs_natCast];by_cases h0:i=0
 ·rw[h0];decide
 ·rw[Nat.log2_lt h0];exact Kf h (KS zd zd)
def rO(a b:TH):al a++al b=al (a++b):=by unfold al;rw[Kb]
def eQ(a:TH):(al a).length=a.length:=by unfold al;rw[JY]
def oa(hl:H l=some (.lst (al xs)))(hb:H b=some (.lst (al zs)))(hz:xs.length+zs.length<=1000000)(q:∀c H',NV H H'->H c=none->H' c=some (.lst (al (xs++zs)))->Q (.ref c) H'):Bz (.ref l) (.ref b) H Q:=by
 have sz:(1000000:Nat)<=sizeLine:=by decide
 refine⟨l,b,_,_,rfl,rfl,hl,hb,by rw[eQ,eQ];lia,fun c nc=>?_⟩;rw[rO];exact q _ _ (ag nc) nc ae
def cM:∀{m:Nat}{e:Ex},cO w m e->(cU e).length+3<=2^(m+2)
 |0,.num n,_=>by show 1+3<=_;decide
 |m+1,.num n,_=>by
  have:0<2^m:=Ru zd;show 1+3<=2^(m+3);have:2^(m+3)=8*2^m:=by rw[Nat.pow_add];lia
  lia
 |0,.nm z,_=>by show 1+3<=_;decide
 |m+1,.nm z,_=>by
  have:0<2^m:=Ru zd;show 1+3<=2^(m+3);have:2^(m+3)=8*2^m:=by rw[Nat.pow_add];lia
  lia
 |0,.cell _,h=>absurd h (by simp[cO])
 |m+1,.cell e,h=>by
  have:=cM (m:=m) (e:=e) h;have h2:2^(m+1+2)=2*2^(m+2):=by rw[show m+1+2=m+2+1 by lia,RJ];lia
  simp only[cU,JX,JU,Ke];lia
 |0,.two _ _ _,h=>absurd h (by simp[cO])
 |m+1,.two o x y,h=>by
  have h1:=cM (m:=m) (e:=x) h.2.1;have h3:=cM (m:=m) (e:=y) h.2.2;have h2:2^(m+1+2)=2*2^(m+2):=by rw[show m+1+2=m+2+1 by lia,RJ];lia
  simp only[cU,JX,JU,Ke];lia
def vJ(h:jT w g):(jf g).length<=62:=by
 cases g with
 |cell a e=>
  have h1:=cM h.1;have h2:=cM h.2;simp only[jf,JX,JU,Ke];lia
 |nm z e=>
  have h2:=cM h.2;simp only[jf,JX,JU,Ke];lia
def og:∀{s:List Gs},(∀g∈s,jT w g)->(bQ s).length<=63*s.length
 |[],_=>KO _
 |g::r,h=>by
  have h1:=vJ (h g JW);have h2:=og fun x hx=>h x (JZ _ hx);simp only[bQ,JX,JU];lia
def vK(e:En):(gA e).length<=2:=by cases e<;>simp[gA]
def jk:∀{m:Nat}{b:Bd},eP w m b->(db b).length+10<=500*2^m
 |m,.leaf s e,h=>by
  have h1:s.length<=4:=by cases m<;>exact h.1
  have h2:∀g∈s,jT w g:=by cases m<;>exact h.2.1
  have h3:=og h2;have h4:=vK e;have:0<2^m:=Ru zd;simp only[db,JX,JU,Ke];lia
 |0,.ite _ _ _ _,h=>absurd h (by simp[eP])
 |m+1,.ite t z y n,h=>by
  have h1:=jk (m:=m) (b:=y) h.2.1;have h2:=jk (m:=m) (b:=n) h.2.2;have h3:2^(m+1)=2*2^m:=by rw[RJ];lia
  have h4:(if t then [(S3:Str),z]else [z]).length<=2:=by cases t<;>simp
  simp only[db,JX,JU,Ke];lia
def mw [DecidableEq κ](kvs:List (κ×V))(k:κ)(v:V):(bC kvs k v).length<=kvs.length+1:=by
 unfold bC;split<;>simp
def vL{zs:TH}{i:Nat}{x:V}(h:(al zs)[i]?=some x):∃z,zs[i]?=some z/\x=.str z:=by
 unfold al at h;rw[Kl]at h;cases e:zs[i]? with
 |none=>rw[e]at h;cases h
 |some z=>rw[e]at h;exact⟨z,rfl,(Kw h).symm⟩
def fc(D:Fm):TH:=[(SA:Str),(toString (D.width:Int):Str),";",Se,(toString (D.cells:Int):Str),";",Sh,(toString (D.depth:Int):Str),";"]++([(Sa:Str)]++D.places++[(";":Str)])++([(Sg:Str)]++D.marks++[(";":Str)])++[(Sx:Str)]++D.gates++[(";":Str)]
def pQ(fs:TM):TH:=fs.flatMap fun x=>[x.1,x.2,","]
def dI(fs:TM):TH:=(pQ fs).take ((pQ fs).length-1)
def cj(x:Kn):TH:=[(So:Str),x.name,("(":Str)]++dI x.fs++[(")":Str)]++db x.bd
def oh(zs:TH)(n:Nat):(al zs).take n=al (zs.take n):=by unfold al;rw[List.map_take]
def rP(fs:TM):(pQ fs).length=3*fs.length:=by
 induction fs with
 |nil=>rfl
 |cons x r ih=>
  unfold pQ at*;rw[Lu,JU,ih];simp;lia
def dc(ts:List (TJ)):TQ:=ts.map fun t=>V.str (S t)
def mx(zs:TH):dc (zs.map cp)=al zs:=by
 unfold dc al;rw[K2];refine List.map_congr_left fun z _=>?_;show V.str (S (cp z))=V.str z;rw[fL]
def cY(ts:List (TJ)):(dc ts).length=ts.length:=by unfold dc;rw[JY]
def dF(D:Fm):TH:=fc D++D.kinds.flatMap cj
def au(zs:TH):TJ:=TK.jn [32] (zs.map cp)
def jl(D:Fm)(ks:List Kn):List (TJ):=au (fc D)::ks.map fun x=>au (cj x)
def eR(D:Fm):TJ:=TK.jn [10] (jl D D.kinds)
def rQ(h1:zs.length<=1500)(h2:∀z∈zs,(cp z).length<=25):((zs.map cp).map List.length).sum+(zs.map cp).length*[32].length<=100000/\(au zs).length<=zs.length*26:=by
 have h3:=iO 25 (zs.map cp) fun t ht=>by
  obtain⟨z,hz,rfl⟩:=Kr.mp ht;exact h2 z hz
 have h4:=ud [32] (zs.map cp);rw[JY]at*;simp only[JX,Ke]at*;unfold au;lia
def w8{zs:List Kn}(h:∀x∈zs,(au (cj x)).length<=(cj x).length*26):((zs.map fun x=>au (cj x)).map List.length).sum<=(zs.flatMap cj).length*26:=by
 induction zs with
 |nil=>exact J2 _
 |cons x r ih=>
  have h1:=h x JW;have h2:=ih fun y hy=>h y (JZ _ hy);rw[Lu,JU,Kd,Kd,Lz];lia
def jm:∀{l:List Kn},x∈l->(cj x).length<=(l.flatMap cj).length
 |y::r,h=>by
  rw[Lu,JU];rcases J0.mp h with rfl|h
  ·lia
  ·have:=jm h;lia
def PU:List (TJ):=[[],[115,101,116],[105,102],[116,111,112,109],[110,101,120,116,114,119],[98],[103,111,100,117,99,107],[99,97,108,108,104,109]]
def gy(si:Nat):TJ:=PU.getD si []
def DB(fi k:Nat):Nat:=97+(fi+5*k)%26
def Bh(WG:TJ)(way fi pd k:Nat):TJ:=if way=0 then WG++[DB fi k]++List.replicate pd 119 else if way=1 then [DB fi k]++WG++List.replicate pd 119 else WG.take (k%(WG.length+1))++[DB fi k]++[113]
def jo(si way fi pd m:Nat):List (TJ):=(List.range m).map (Bh (gy si) way fi pd)
def Q9:List (TJ):=OS.map cp
def G4(t:TJ):Bool:=!decide (t=[100,101,101,112]) && !decide (t=[98,97,114,101])&&decide (1<=t.length)&&decide (t.length<=8) && !Q9.contains t&&t.all fun c=>decide (97<=c)&&decide (c<=122)
def zy:((List.range 8).all fun si=>(List.range 26).all fun t=>((List.range (8-(gy si).length)).all fun pd=>G4 (gy si++[97+t]++List.replicate pd 119)&&G4 ([97+t]++gy si++List.replicate pd 119))&&(List.range ((gy si).length+1)).all fun j=>G4 ((gy si).take j++[97+t]++[113]))=true:=by decide +kernel
def Po(h:S a=S b):a=b:=by
 have:=e_ cp h
 rwa [gr,gr]at this
def cm(z:Str):Prop:=N8 z/\z∉([(Ta:Str),(Te:Str)]:TH)
def pR(h:G4 t=true):cm (S t):=by
 unfold G4 at h;simp only[KQ,t_,KC,RH]at h;obtain⟨⟨⟨⟨⟨h5,h6⟩,h1⟩,h2⟩,h3⟩,h4⟩:=h;refine⟨⟨fun hm=>?_,by rw[aG];exact h1,by rw[aG];exact h2,h4⟩,fun hm=>?_⟩;rotate_left
 ·have d1:(Ta:Str)=S [100,101,101,112]:=by decide +kernel
  have d2:(Te:Str)=S [98,97,114,101]:=by decide +kernel
  rw[d1,d2]at hm;simp only[J0,Kc,l_]at hm;rcases hm with e|e
  ·exact absurd (Po e) (by simpa using h5)
  ·exact absurd (Po e) (by simpa using h6)
 have:t∈Q9:=Kr.mpr ⟨S t,hm,gr t⟩;rw[KM.mpr this]at h3;cases h3
def vM(h:si<8):(gy si).length<=6:=by revert si;decide +kernel
def E4(h1:si<8)(h3:pd<8-(gy si).length):cm (S (Bh (gy si) way fi pd k)):=by
 have hs:=vM h1;have h:=KC.mp (KC.mp zy si (K1.mpr h1)) ((fi+5*k)%26) (K1.mpr (LK _ zd));obtain⟨ha,hb⟩:=Bool.and_eq_true_iff.mp h;obtain⟨ha1,ha2⟩:=Bool.and_eq_true_iff.mp (KC.mp ha pd (K1.mpr h3));have hb1:=KC.mp hb (k%((gy si).length+1)) (K1.mpr (LK _ (by omega)));unfold Bh;split
 ·exact pR ha1
 ·split
  ·exact pR ha2
  ·exact pR hb1
def Cm(hab:a<b)(hb:b<26):S (Bh (gy si) way fi pd a)≠S (Bh (gy si) way fi pd b):=by
 intro e;have e:=Po e;have key:DB fi a=DB fi b:=by
  unfold Bh at e;split at e
  ·exact(List.cons.inj (List.append_cancel_left (Lp e))).1
  ·split at e
   ·exact(List.cons.inj (Lp (Lp e))).1
   ·have:=e_ List.getLast? (Lp e);rw[List.getLast?_concat,List.getLast?_concat]at this;exact Kw this
 unfold DB at key;omega
def xb(h1:si<8)(h3:pd<8-(gy si).length)(hm:m<=20):((jo si way fi pd m).map S).Nodup/\(∀z∈(jo si way fi pd m).map S,cm z)/\((jo si way fi pd m).map S).length=m:=by
 refine⟨?_,?_,?_⟩
 ·unfold jo;rw[K2];unfold List.Nodup;rw[List.pairwise_map];refine List.Pairwise.imp_of_mem ?_ (List.pairwise_lt_range (n:=m));intro a b _ hb hab;have:=K1.mp hb;exact Cm hab (by omega)
 ·intro z hz;unfold jo at hz;rw[K2]at hz;obtain⟨k,_,rfl⟩:=Kr.mp hz;exact E4 h1 h3
 ·unfold jo;simp
def my(l:List (TJ)):dc l=al (l.map S):=by unfold dc al;rw[K2];rfl
inductive mz(vs:TQ)(H:Hp)(Q:VK)(Z3:XK):Prop
 |mk(p:Ts)(m:Nat):vs=[.ref p,.int m]->N6 H p->m<=20->(∀(l:Ts)H'(zs:TH),zs.length=m->zs.Nodup->(∀z∈zs,cm z)->N6 H' p->Of p H H'->H l=none->H' l=some (.lst (al zs))->Q (.ref l) H')->mz vs H Q Z3
def Cn(h:si<8):([("":Str),"set",Tn,"topm","nextrw","b","goduck","callhm"].map V.str)[si]?=some (.str (S (gy si))):=by
 have e:([("":Str),"set",Tn,"topm","nextrw","b","goduck","callhm"]:TH)=PU.map S:=by decide +kernel
 rw[e,K2,Kl];have hl:si<PU.length:=h;rw[J1 hl];unfold gy;simp[hl]
section
def On:av [R6,Sq,"_law_stem",SU,"_law_first","_law_pad",Sl,SZ,"_law_tail"] [R6,Sq] (ak sW):=cV zk
def xc(F:Ob K "_law_names" "_law_names" sW f fd)(B:Bl mg)(G':Fn P w K mg base "_law_take" 1 [R6,Sq] eO):NZ P w K mg base bZ 2 f fd [R6,Sq] mz:=by
 have ZZ:=On
 walk_at "o"
 ·obtain⟨p,m,rfl,hp,hm,q⟩:=h;walk_at "v"
  refine⟨_,af (bL (i:=2) On.nd (ax aP (aT (aa ai (aa ai (aa ai (aa ai (aa ai (aa ai (aa ai (aa ai ac))))))))) (ar G' hr rfl (aa (pv 0) (aa ah ac)))))
   (af (bL (i:=3) On.nd (ar G' hr rfl (aa (pv 0) (aa ah ac))))
   (af (bL (i:=4) On.nd (ar G' hr rfl (aa (pv 0) (aa ah ac))))
   (af (bL (i:=5) On.nd (aA Cj ai (ar G' hr rfl (aa (pv 0) (aa (aA fY ah (aC bN (by rfl) B.len Kt (aa (pv 2) ac))) ac)))))
   (af (bL (i:=6) On.nd (aT ac))
   (af (dB h_ rfl (gR rfl B.range (aa (pv 1) ac)) (cG (i:=7) On.nd)
    (af (bL (i:=8) On.nd (ax jF ai (aA fh (aA bV (pv 4) (aA gC ah (pv 7))) ah)))
    (aj (aQ (ap aW (pv 3) ah) (aj (aM (cu Kp Kk Kj bz (pv 6) (aa (aA aH (aA aH (pv 2) (pv 8)) (pv 5)) ac))))
     (aj (aQ (ap aW (pv 3) ah) (aj (aM (cu Kp Kk Kj bz (pv 6) (aa (aA aH (aA aH (pv 8) (pv 2)) (pv 5)) ac))))
      (aj (aM (cu Kp Kk Kj bz (pv 6) (aa (aA aH (aA aH (dC lM (pv 2) i7 (cW (aA fh (pv 7) (aA bV (aC bN (by rfl) B.len Kt (aa (pv 2) ac)) ah)))) (pv 8)) ai) ac))))))))))
   (aj (aq (pv 6)))))))),?_⟩
  refine⟨N5,fun l8 n8=>?_⟩;have s1:=ag (o:=.lst ([("":Str),"set",Tn,"topm","nextrw","b","goduck","callhm"].map V.str)) n8;have YY:=hp.same s1;have e8:(aI H l8 (.lst ([("":Str),"set",Tn,"topm","nextrw","b","goduck","callhm"].map V.str))) l8=some (.lst ([("":Str),"set",Tn,"topm","nextrw","b","goduck","callhm"].map V.str)):=ae;refine⟨_,rfl,p,8,rfl,YY,zd,zd,fun si H2 hsi g2 b2=>?_⟩;have n8p:=hp.ne n8;refine⟨l8,_,_,_,rfl,rfl,N0.of (b2 _ _ e8 n8p.symm),aU (Cn hsi),?_⟩;have WD:Of p H H2:=(dW s1).trans b2;have sl:=vM hsi;refine⟨_,rfl,p,3,rfl,g2,zd,zd,fun way H3 hway g3 b3=>?_⟩;refine⟨_,rfl,p,26,rfl,g3,zd,zd,fun fi H4 hfi g4 b4=>?_⟩;refine⟨_,rfl,_,rfl,_,rfl,by rw[aG];omega,_,_,rfl,rfl,?_⟩;refine⟨p,8-(gy si).length,by rw[aG];exact e_ (fun x=>[V.ref p,V.int x]) (by omega),g4,by omega,by omega,fun pd H4' hpd g4' b4'=>?_⟩;refine⟨119,pd,e_ V.str zk,rfl,by omega,?_⟩;have W8:Of p H H4':=(WD.trans (b3.trans b4)).trans b4';clear WD b2 b3 b4 g2 g3 b4';refine⟨N5,fun ln nln=>?_⟩;have s5:=ag (o:=.lst []) nln;have e5:(aI H4' ln (.lst [])) ln=some (.lst []):=ae;have g5:=g4'.same s5;have pln:p≠ln:=g4'.ne nln;have nH:H ln=none:=by
   cases h:H ln with
   |none=>rfl
   |some o=>
    have:=W8 _ _ h pln.symm;rw[nln]at this;cases this
  have b05:Of p H (aI H4' ln (.lst [])):=W8.same s5;generalize aI H4' ln (.lst ([]:TQ))=H5 at*;refine⟨_,rfl,_,rfl,by omega,by omega,?_⟩;rw[show((m:Int)).toNat=m from Lf m];refine gS (lo:=0) (n:=m) (fun i σ H'=>∃v6 v7:Option V,σ=[some (.ref p),some (.int m),some (.str (S (gy si))),some (.int way),some (.int fi),some (.str (S (List.replicate pd 119))),some (.ref ln),v6,v7]/\N6 H' p/\Of p H H'/\H' ln=some (.lst (dc (jo si way fi pd i)))) ⟨_,_,rfl,g5,b05,e5⟩ ?_ ?_
  ·rintro k σ H6 hk ⟨v6,v7,rfl,g6,b6,e6⟩;have hk':k<m:=hk;have e0:((0:Int)+(k:Int))=(k:Int):=by omega
   rw[e0];have hmod:((fi:Int)+5*(k:Int))%26=(((fi+5*k)%26:Nat):Int):=by omega
   have hq5:(fi+5*k)%26<26:=LK _ zd;have qat:∀j<26,("abcdefghijklmnopqrstuvwxyz":Str).cps.toList[j]?=some (97+j):=by decide +kernel
   refine⟨_,rfl,_,rfl,_,_,rfl,rfl,.inl ⟨zd,zd⟩,_,_,rfl,rfl,_,_,rfl,rfl,(by show(0:Int)<26;decide),?_⟩;refine⟨"abcdefghijklmnopqrstuvwxyz",_,_,rfl,rfl,zk,by show qJ _ (((fi:Int)+5*(k:Int))%26)=_;rw[hmod];exact aU (qat _ hq5),?_⟩;have et:(⟨#[97+(fi+5*k)%26]⟩:Str)=S [DB fi k]:=rfl;rw[et];have F':∀nm,nm=Bh (gy si) way fi pd k->∃v6 v7:Option V,[some (V.ref p),some (.int m),some (.str (S (gy si))),some (.int way),some (.int fi),some (.str (S (List.replicate pd 119))),some (.ref ln),some (.int k),some (.str (S [DB fi k]))]=[some (.ref p),some (.int m),some (.str (S (gy si))),some (.int way),some (.int fi),some (.str (S (List.replicate pd 119))),some (.ref ln),v6,v7]/\N6 (aI H6 ln (.lst (dc (jo si way fi pd k)++[.str (S nm)]))) p/\Of p H (aI H6 ln (.lst (dc (jo si way fi pd k)++[.str (S nm)])))/\(aI H6 ln (.lst (dc (jo si way fi pd k)++[.str (S nm)]))) ln=some (.lst (dc (jo si way fi pd (k+1)))):=by
    rintro nm rfl;refine⟨_,_,rfl,?_,?_,?_⟩
    ·obtain⟨x,y,z,e⟩:=g6;exact⟨x,y,z,by rw[am pln];exact e⟩
    ·intro b o e nb;rw[am (az e nH)];exact b6 _ _ e nb
    ·rw[ae];unfold jo dc;rw[RV,Kb,Kb];rfl
   have lnm:(dc (jo si way fi pd k)).length<sizeLine:=by
    unfold dc jo;rw[JY,JY,List.length_range];omega
   refine⟨_,rfl,rfl,_,rfl,bW (fun h=>?_) (fun h=>?_)⟩
   ·have h':(way:Int)=0:=V.int.inj (k_ h);have hw0:way=0:=by omega
    refine⟨_,rfl,.inl ⟨rfl,_,N0.of e6⟩,_,rfl,_,rfl,_,_,rfl,rfl,by rw[aG,aG];simp;omega,?_⟩;rw[bJ];refine⟨_,rfl,_,_,rfl,rfl,by rw[aG,aG,JU];simp;omega,ln,_,_,rfl,rfl,e6,lnm,?_⟩;rw[bJ];exact F' _ (by unfold Bh;rw[g_ hw0])
   have nw0:way≠0:=fun e=>h (b_ (by rw[e];rfl));refine⟨_,rfl,rfl,_,rfl,bW (fun h=>?_) (fun h=>?_)⟩
   ·have h':(way:Int)=1:=V.int.inj (k_ h);have hw1:way=1:=by omega
    refine⟨_,rfl,.inl ⟨rfl,_,N0.of e6⟩,_,rfl,_,rfl,_,_,rfl,rfl,by rw[aG,aG];simp;omega,?_⟩;rw[bJ];refine⟨_,rfl,_,_,rfl,rfl,by rw[aG,aG,JU];simp;omega,ln,_,_,rfl,rfl,e6,lnm,?_⟩;rw[bJ];exact F' _ (by unfold Bh;rw[f_ nw0,g_ hw1])
   have nw1:way≠1:=fun e=>h (b_ (by rw[e];rfl));refine⟨_,rfl,.inl ⟨rfl,_,N0.of e6⟩,_,rfl,_,rfl,_,rfl,_,rfl,by rw[aG];omega,_,_,rfl,rfl,_,_,rfl,rfl,?_,_,rfl,_,rfl,by omega,?_⟩
   ·rw[aG];show(0:Int)<((gy si).length:Int)+1;omega
   have ZI:gf (gy si) none (some ((k:Int)%(((S (gy si)).length:Int)+1)))=(gy si).take (k%((gy si).length+1)):=by
    rw[aG];have e1:(k:Int)%(((gy si).length:Int)+1)=((k%((gy si).length+1):Nat):Int):=by
     rw[Int.natCast_emod];rfl
    have Md:k%((gy si).length+1)<(gy si).length+1:=LK _ (by omega);unfold gf;rw[e1,HT.sIx_none,HT.sIx_nat,LP (by omega),R0,Nat.sub_zero]
   have hcl:(gf (gy si) none (some ((k:Int)%(((S (gy si)).length:Int)+1)))).length<=6:=by
    rw[ZI,J9];omega
   generalize hcv:gf (gy si) none (some ((k:Int)%(((S (gy si)).length:Int)+1)))=cv at*;have eq:("q":Str)=S [113]:=by decide +kernel
   refine⟨_,rfl,_,_,rfl,rfl,by rw[aG,aG];simp;omega,?_⟩;rw[bJ];refine⟨_,_,rfl,e_ V.str eq,by rw[aG,aG,JU];simp;omega,ln,_,_,rfl,rfl,e6,lnm,?_⟩;rw[bJ];exact F' _ (by unfold Bh;rw[f_ nw0,f_ nw1,ZI])
  ·rintro σ H6 ⟨v6,v7,rfl,g6,b6,e6⟩;obtain⟨h1,h2,h3⟩:=xb (way:=way) (fi:=fi) hsi hpd hm;rw[my]at e6;exact⟨_,rfl,q ln H6 _ h3 h1 h2 g6 b6 nH e6⟩
end
end L3
namespace L2
open PySem PySem.Spec PyProof.Rows
def kL{K:ZF}{l:Ts}{xs:TQ}{g:TG}{tf:TT}{te:TE}{ix:List (Option Nat)}{σ:St}{H:Hp}{Q:VK}(Pv:Nat->TQ->Hp->Prop)(h0:Pv 0 [] H)
  (hl:∀i ys H,i<=xs.length->Pv i ys H->N0 K H l xs/\ys.length<=sizeLine)
  (hs:∀i x ys H T,xs[i]?=some x->H T=none->Pv i ys H->g (.ref T) (qv ix σ) (aI H T (.tup [.int i,x])) fun σ2 H2=>O4 (qv ix σ) σ2/\tf σ2 H2 fun b H3=>if b=true then te σ2 H3 fun y H4=>Nx Pv xs.length i (ys++[y]) H4 else Nx Pv xs.length i ys H3)
  (hd:∀ys H,Pv xs.length ys H->∀D,H D=none->Q (.ref D) (aI H D (.lst ys))):wE (IL K l) g tf te ix σ H Q:=by
 refine⟨fun i m ys H=>m=xs.length-i/\i<=xs.length/\Pv i ys H,⟨xs.length,by simp,KO _,h0⟩,?_⟩;rintro i m ys H ⟨rfl,hi,p⟩;obtain⟨q,hz⟩:=hl i ys H hi p;by_cases Md:i<xs.length
 ·refine .inr ⟨⟨xs,xs[i],q,by simp[Md]⟩,hz,fun v H' y=>?_⟩;obtain⟨T,x,e1,hT,e2,hy⟩:=y;subst e1 e2;exact hs i x ys H T (hy xs q) hT p
 ·have e:i=xs.length:=by lia
  subst e;exact .inl ⟨⟨xs,q,J2 _⟩,hz,hd ys H p⟩
end L2
namespace L3
open PySem L2
section
variable{y:V}{kvs:List (dv×V)}
def iP{k:dv}:bx (bC kvs k y) k=some y:=by rw[qW,g_ rfl]
def ck{k j:dv}(h:j≠k):bx (bC kvs k y) j=bx kvs j:=by rw[qW,f_ h]
def bj(e:H a=some (.dK kvs))(h:bx kvs (Sum.inr z)=some v):Oz H a (.str z) (some v):=by
 have:=Oz.k (k:=Sum.inr z) e;rw[h]at this;exact this
def ue(b:Of p H H1)(g:N6 H1 p)(n:H1 l=none):H l=none:=by
 have hl:=g.ne n;cases e:H l with
 |none=>rfl
 |some o=>
  have:=b _ _ e hl.symm;rw[n]at this;cases this
def E5(xs:TQ)(n:Nat):km xs none (some (n:Int))=xs.take n:=by
 unfold km;rw[HT.sIx_nat,HT.sIx_none,R0,Nat.sub_zero];by_cases h:n<=xs.length
 ·rw[LP h]
 ·rw[Nat.min_eq_right zo,K6 (J2 _),K6 zo]
def E6(xs:TQ)(n m:Nat)(h:n+m<=xs.length):km xs (some (n:Int)) (some ((n+m:Nat):Int))=(xs.drop n).take m:=by
 unfold km;rw[HT.sIx_nat,HT.sIx_nat,LP h,LP (by lia:n<=xs.length),Nat.add_sub_cancel_left]
def kS(z:Str):dv:=Sum.inr z
inductive Qv(H:Hp)(d:Ts)(W:Nat)(ps:TH)(ms:TH):Prop
 |mk(kvs lp lm:_):H d=some (.dK kvs)->bx kvs (kS R_)=some (.int W)->bx kvs (kS Sa)=some (.ref lp)->bx kvs (kS Sg)=some (.ref lm)->H lp=some (.lst (al ps))->H lm=some (.lst (al ms))->Qv H d W ps ms
inductive Qg(H:Hp)(l:Ts)(fs:TM):Prop
 |mk(us:_):H l=some (.lst us)->Paired (Oh H) us fs->Qg H l fs
variable{H:Hp}
def bv{p l:Ts}{o:HO}(g:N6 H p)(e:H l=some o)(h:∀x y z,o≠o9 x y z):l≠p:=by
 rintro rfl;obtain⟨x,y,z,e'⟩:=g;rw[e]at e';exact h x y z (Kw e')
def cE(zs:TH)(x y z:Int):HO.lst (al zs)≠o9 x y z:=by
 intro e;have:=HO.lst.inj e;cases zs with
 |nil=>cases this
 |cons a r=>cases this
def rR{us:TQ}{fs:TM}(h:Paired (Oh H) us fs)(x y z:Int):HO.lst us≠o9 x y z:=by
 intro e;have:=HO.lst.inj e;cases h with
 |nil=>cases this
 |cons a r=>
  obtain⟨p,rfl,_⟩:=a;cases this
variable{p:Ts}
def dX{H H':Hp}(g:N6 H p)(b:Of p H H'):N9 H H':=fun a xs e=>b _ _ e (bv g e fun _ _ _ h=>by cases h)
variable{ps ms:TH}{W:Nat}{d:Ts}
def Qv.but{H H':Hp}(h:Qv H d W ps ms)(g:N6 H p)(b:Of p H H'):Qv H' d W ps ms:=
 let⟨kvs,lp,lm,a1,a2,a3,a4,a5,a6⟩:=h
 ⟨kvs,lp,lm,b _ _ a1 (bv g a1 fun _ _ _ h=>by cases h),a2,a3,a4,b _ _ a5 (bv g a5 (cE _)),b _ _ a6 (bv g a6 (cE _))⟩
def Oh.kt2{H H':Hp}(k:N9 H H'){u:V}{x:Str×Str}(h:Oh H u x):Oh H' u x:=let⟨p,a,c⟩:=h;⟨p,a,k _ _ c⟩
def Qg.but{H H':Hp}{p l:Ts}{fs:TM}(h:Qg H l fs)(g:N6 H p)(b:Of p H H'):Qg H' l fs:=
 let⟨us,a1,a2⟩:=h
 ⟨us,b _ _ a1 (bv g a1 (rR a2)),bF (fun _ _ h=>Oh.kt2 (dX g b) h) a2⟩
def Qv.same{H H':Hp}(h:Qv H d W ps ms)(s:NV H H'):Qv H' d W ps ms:=
 let⟨kvs,lp,lm,a1,a2,a3,a4,a5,a6⟩:=h
 ⟨kvs,lp,lm,s _ _ a1,a2,a3,a4,s _ _ a5,s _ _ a6⟩
def Qg.same{H H':Hp}{l:Ts}{fs:TM}(h:Qg H l fs)(s:NV H H'):Qg H' l fs:=
 let⟨us,a1,a2⟩:=h
 ⟨us,s _ _ a1,bF (fun _ _ h=>Oh.kt2 (ao s) h) a2⟩
def dw(st:Str)(fs:TM)(i:Nat):TJ:=(List.range i).filter fun j=>decide ((fs.getD j ("","")).2=st)
def gu(l:TJ):TQ:=l.map fun(n:Nat)=>V.int (n:Int)
def xf(l:TJ):gu l=(l.map fun(n:Nat)=>(n:Int)).map V.int:=by unfold gu;rw[K2];rfl
def fO(l:TJ):(gu l).length=l.length:=by unfold gu;rw[JY]
variable{i:Nat}
def pS{l:TJ}(h:i<l.length):(gu l)[i]?=some (.int (l[i]:Nat)):=by unfold gu;rw[Kl,J1 h];rfl
variable{st:Str}
def eJ{fs:TM}{z:Str×Str}(h:fs[i]?=some z):dw st fs (i+1)=dw st fs i++(if z.2=st then [i]else []):=by
 unfold dw;rw[RV,LA];have e:fs.getD i ("","")=z:=by rw[Kv,h];rfl
 congr 1
 by_cases hz:z.2=st
 ·rw[g_ hz];show [i].filter _=_;rw[Lj]
  ·rfl
  ·rw[e];exact b_ hz
 ·rw[f_ hz,LB]
  ·rfl
  ·rw[e];simpa using hz
def ie(st:Str)(fs:TM)(i:Nat):(dw st fs i).length<=i:=by
 have:=List.length_filter_le (fun j=>decide ((fs.getD j ("","")).2=st)) (List.range i);rw[List.length_range]at this;exact this
def mB{fs:TM}{j:Nat}(h:j∈dw st fs fs.length):∃z,fs[j]?=some (z,st):=by
 obtain⟨h1,h2⟩:=Lr.mp h;have hl:=K1.mp h1;have e:fs.getD j ("","")=fs[j]:=by rw[Kv,J1 hl];rfl
 rw[e]at h2;have Zi:=k_ h2;refine⟨fs[j].1,?_⟩;rw[J1 hl,<-Zi]
variable{Q:V->Hp->Prop}{a b:Ts}{K:ZF}
def pU{l:TJ}(ha:H a=some (.lst (gu l)))(hb:H b=some (.lst []))(q:Q (.bl (!decide (l=[]))) H):QE K (.ref a) (.ref b) H Q:=by
 rw[xf]at ha;refine⟨_,_,QO (N0.of ha),.lst (N0.of hb) .nil,O0 _,rfl,Kx (RO _ _) (by simp[PyData.depth,PyData.depthAll]),?_⟩;have e:PyData.eqv (QB (l.map fun(n:Nat)=>(n:Int))) (.list [])=decide (l=[]):=by
  unfold QB;cases l with
  |nil=>simp[PyData.eqv,PyData.eqvAll]
  |cons x r=>simp[PyData.eqv,PyData.eqvAll]
 rw[e];exact q
def mC:∀(ns:TH),Oy K H (al ns) (ns.map PyData.str)
 |[]=>.nil
 |n::r=>.cons (.str n) (mC r)
def dS{z:Str}(h:N8 z):kD z=true:=by
 unfold kD;simp only[PyData.canLay0];unfold PyData.strOk;rw[Array.all_eq_true'];intro c hc;have:=h.2.2.2 c (by simpa using hc);exact b_ zo
def rS:∀{ns:TH},(∀z∈ns,kD z=true)->PyData.canLayAll0 (ns.map PyData.str)=true
 |[],_=>rfl
 |n::r,h=>by
  show((PyData.str n).canLay0&&PyData.canLayAll0 (r.map PyData.str))=true;rw[rS fun z hz=>h z (JZ _ hz)];have:(PyData.str n).canLay0=true:=h n JW;rw[this];rfl
def pV{l:TH}(hn:∀z∈l,N8 z)(ha:H a=some (.lst (al l)))(hb:H b=some (.lst []))(q:Q (.bl (!decide (l=[]))) H):QE K (.ref a) (.ref b) H Q:=by
 refine⟨.list (l.map PyData.str),_,.lst (N0.of ha) (mC l),.lst (N0.of hb) .nil,rS fun z hz=>dS (hn z hz),rfl,by simp[PyData.depth,PyData.depthAll],?_⟩;have e:PyData.eqv (.list (l.map PyData.str)) (.list [])=decide (l=[]):=by
  cases l with
  |nil=>simp[PyData.eqv,PyData.eqvAll]
  |cons x r=>simp[PyData.eqv,PyData.eqvAll]
 rw[e];exact q
def cw(L:TH)(st:Str)(fs:TM)(b:Bool)(n:Nat):Prop:=if b=true then ∃z,fs[n]?=some (z,st)else n<L.length
def fP(ps ms:TH)(st:Str):TH:=if st=R9 then ps else ms
inductive mD(vs:TQ)(H:Hp)(Q:VK)(Z3:XK):Prop
 |mk(p st d lf W ps ms fs:_):vs=[.ref p,.str st,.ref d,.ref lf]->N6 H p->Qv H d W ps ms->Qg H lf fs->fs.length<=3->(st=R9\/st=Sc)->1<=(fP ps ms st).length->(fP ps ms st).length<=10->(∀v H' b n,N6 H' p->Of p H H'->Qc H' b n v->cw (fP ps ms st) st fs b n->Q v H')->mD vs H Q Z3
def iQ(h:Qv H d W ps ms)(M':st=R9\/st=Sc):∃l,Oz H d (.str (st++"s")) (some (.ref l))/\H l=some (.lst (al (fP ps ms st))):=by
 obtain⟨kvs,lp,lm,a1,a2,a3,a4,a5,a6⟩:=h;rcases M' with rfl|rfl
 ·refine⟨lp,?_,?_⟩
  ·have:((R9:Str)++("s":Str))=Sa:=by decide +kernel
   rw[this];exact bj a1 a3
  ·unfold fP;rw[g_ rfl];exact a5
 ·refine⟨lm,?_,?_⟩
  ·have:((Sc:Str)++("s":Str))=Sg:=by decide +kernel
   rw[this];exact bj a1 a4
  ·unfold fP;rw[f_ zk];exact a6
variable{P:Tv}{w:Tw}{K:ZF}{mg:Str->Option Tr}{base:Heap}{C fi aS aE aF aO:Ts}{t1 t2 t3 t4 t5 tM:Tok}
def QA:av [R6,Sv,R5,R7,"_law_by"] [R6,Sv,R5,R7] (ak vj):=cV zk
def IZ:(["_law_j",Sn,"_law_its",Sv]:TH).Nodup:=by decide +kernel
inductive zA(p:Ts)(st:Str)(d:Ts)(lf:Ts)(H:Hp)(fs:TM)(σ:St)(H':Hp):Prop
 |mk(lb:_):σ=[some (.ref p),some (.str st),some (.ref d),some (.ref lf),some (.ref lb)]->N6 H' p->Of p H H'->H' lb=some (.lst (gu (dw st fs fs.length)))->p≠lb->dw st fs fs.length≠[]->zA p st d lf H fs σ H'
inductive zC(p:Ts)(st:Str)(d:Ts)(lf:Ts)(H:Hp)(σ:St)(H':Hp):Prop
 |mk(lb:_):σ=[some (.ref p),some (.str st),some (.ref d),some (.ref lf),some (.ref lb)]->N6 H' p->Of p H H'->zC p st d lf H σ H'
def Co{f:Ts}{fd:TB}(F:Ob K "_law_sel" "_law_sel" vj f fd)(B:Bl mg)(B3:EH mg)(G':Fn P w K mg base "_law_take" 1 [R6,Sq] eO):NZ P w K mg base bZ 2 f fd [R6,Sv,R5,R7] mD:=by
 have ZZ:=QA
 walk_at "o"
 ·obtain⟨p,st,d,lf,W,ps,ms,fs,rfl,hp,hT,hF,h3,M',h1,h10,q⟩:=h;have hu:=eY hr;walk_at "v"
  refine⟨_,af (lJ (i:=4) QA.nd rfl rfl (N':=["_law_j",Sn,"_law_its",Sv]) (ix:=[none,none,none,some 1]) (sc0:=ak vj) (N:=[R6,Sv,R5,R7,"_law_by"]) rfl zk (kE rfl B3.enumerate (aa (pv 3) ac))
     (fun C' cl s H fp=>dh (K:=K) (n:=2) rfl rfl (aw (cG (i:=0) IZ) (aw (dh (K:=K) (n:=2) rfl rfl (aw (cG (i:=1) IZ) (aw (cG (i:=2) IZ) bB))) bB))) (fun _ _ _ _ _=>iC (ap aW (pv 2) (pv 3))) (fun C' cl s H fp=>pv 0))
   (af (aQ (c9 (zA p st d lf H fs) (zC p st d lf H) (PW.pt (bY (ap (OK hr) (pv 4) (aT ac)) (bM (ap aW (ar G' hr rfl (aa (pv 0) (aa ah ac))) ah)))))
     (aj (aq (ay (aa ai (aa (ax aP (pv 4) (ar G' hr rfl (aa (pv 0) (aa (aC aY (by rfl) B.len Kt (aa (pv 4) ac)) ac)))) ac))))) aB)
   (aj (aq (ay (aa ai (aa (ar G' hr rfl (aa (pv 0) (aa (aC aY (by rfl) B.len Kt (aa (aZ hu (pv 2) (aA aH (pv 1) ai)) ac)) ac))) ac)))))),?_⟩
  obtain⟨us,Wv,L9⟩:=id hF;have lu:=L9.length;refine⟨_,rfl,lf,rfl,⟨_,N0.of Wv⟩,?_⟩;refine kL (K:=K) (l:=lf) (xs:=us) (fun i ys H'=>NV H H'/\ys=gu (dw st fs i)) ⟨NV.refl _,rfl⟩ (fun i ys H' hi⟨s',e'⟩=>⟨N0.of (s' _ _ Wv),by rw[e',fO];have:=ie st fs i;lia⟩) ?_ ?_
  ·rintro i x ys H1 T1 hx nT ⟨s1,rfl⟩;obtain⟨z,hz,pf,rfl,U3⟩:=gq L9 hx;have s2:=ag (o:=.tup [.int (i:Int),.ref pf]) nT;have Mc:=s1.trans s2;have Md:=(JV.mp hx).1;refine⟨T1,_,rfl,NY.of ae,rfl,_,_,rfl,_,_,rfl,⟨pf,_,rfl,NY.of (Mc _ _ U3),rfl,_,_,rfl,_,_,rfl,rfl,rfl,⟨rfl,trivial⟩,?_⟩⟩;refine⟨_,rfl,_,rfl,rfl,_,rfl,bW (fun h=>?_) (fun h=>?_)⟩
   ·have h':z.2=st:=V.str.inj (k_ h);refine⟨_,rfl,Nx.mk Md ⟨Mc,?_⟩⟩;rw[eJ hz,g_ h'];unfold gu;rw[Kb];rfl
   ·have h':¬z.2=st:=fun e=>h (b_ (by rw[e]));refine Nx.mk Md ⟨Mc,?_⟩;rw[eJ hz,f_ h',KB]
  ·rintro ys H1 ⟨s1,rfl⟩ lb VA;rw[lu];have Y8:=ie st fs fs.length;generalize zz:aI H1 lb _=H2;have s2:=(nw VA zz).1;have e2:H2 lb=some (.lst (gu (dw st fs fs.length))):=(nw VA zz).2;clear zz;have T':p≠lb:=(hp.same s1).ne VA;have VF:=s1.trans s2;refine⟨?_,?_,?_⟩
   ·rintro H4 ⟨VQ,e,g4,b4,e4,pl4,Ma⟩;have Uw:0<(dw st fs fs.length).length:=Ll.mpr Ma;cases e;refine⟨_,rfl,_,rfl,_,rfl,lb,_,rfl,.inl (N0.of e4),?_⟩;rw[fO];refine⟨p,(dw st fs fs.length).length,rfl,g4,Uw,zo,fun j H5 hj g5 b5=>?_⟩;obtain⟨z,hz⟩:=mB (KJ hj);refine⟨lb,_,_,_,rfl,rfl,N0.of (b5 _ _ e4 pl4.symm),aU (pS hj),N5,fun t nt=>?_⟩;have s6:=ag (o:=.tup [.str "by",.int ((dw st fs fs.length)[j]:Nat)]) nt;refine q _ _ true (dw st fs fs.length)[j] (g5.same s6) ((b4.trans b5).same s6) ⟨t,rfl,ae⟩ ?_;unfold cw;rw[g_ rfl];exact⟨z,hz⟩
   ·rintro H4 ⟨VQ,e,g4,b4⟩;cases e;have hT4:=hT.but hp b4;obtain⟨l,dg,el⟩:=iQ hT4 M';have U2:st.length+("s":Str).length<=sizeLine:=by
     rcases M' with rfl|rfl<;>decide +kernel
    refine⟨_,rfl,_,rfl,_,rfl,_,_,rfl,rfl,U2,d,_,rfl,dg,l,_,rfl,.inl (N0.of el),?_⟩;rw[eQ];refine⟨p,(fP ps ms st).length,rfl,g4,zo,zo,fun j H5 hj g5 b5=>?_⟩;refine⟨N5,fun t nt=>?_⟩;have s6:=ag (o:=.tup [.str "is",.int (j:Nat)]) nt;refine q _ _ false j (g5.same s6) ((b4.trans b5).same s6) ⟨t,rfl,ae⟩ ?_;unfold cw;rw[f_ zd];exact hj
   ·refine⟨_,rfl,N5,fun le Vz=>?_⟩;generalize zz:aI H2 le _=H3;have⟨s3,e3⟩:=nw Vz zz;clear zz;have WS:=VF.trans s3;have Yi:=hp.same WS;refine pU (s3 _ _ e2) e3 ⟨_,rfl,?_⟩;refine bW (fun h=>?_) (fun h=>?_)
    ·have Ma:dw st fs fs.length≠[]:=by
      intro e;rw[e]at h;simp at h
     refine⟨_,rfl,p,2,rfl,Yi,zd,zd,fun r H4 LV g4 b4=>?_⟩;have W8:Of p H H4:=(dW WS).trans b4;refine⟨rfl,_,rfl,bW (fun h=>?_) (fun h=>?_)⟩
     ·exact⟨lb,rfl,g4,W8,b4 _ _ (s3 _ _ e2) T'.symm,T',Ma⟩
     ·exact⟨lb,rfl,g4,W8⟩
    ·exact bK ⟨lb,rfl,Yi,dW WS⟩
end
def aR(W:Nat)(ps ms:TH)(fs:TM):Nat->Ed->Prop
 |_,.num n=>n<2^W
 |_,.fld j=>∃z:Str,fs[j]?=some (z,("number":Str))
 |_,.pl b n=>cw ps R9 fs b n
 |_,.mk b n=>cw ms Sc fs b n
 |0,.cell _=>False
 |m+1,.cell e=>aR W ps ms fs m e
 |0,.two _ _ _=>False
 |m+1,.two o x y=>o∈Oi/\aR W ps ms fs m x/\aR W ps ms fs m y
structure Lx(H:Hp)(p d lf:Ts)(W:Nat)(ps ms:TH)(fs:TM):Prop where
 g:N6 H p
 t:Qv H d W ps ms
 f:Qg H lf fs
 f3:fs.length<=3
 w4:4<=W
 w24:W<=24
 p1:1<=ps.length
 p10:ps.length<=10
 m10:ms.length<=10
 mn:∀z∈ms,cm z
 pn:∀z∈ps,cm z
def Lx.but(h:Lx H p d lf W ps ms fs)(g:N6 H' p)(b:Of p H H'):Lx H' p d lf W ps ms fs:=⟨g,h.t.but h.g b,h.f.but h.g b,h.f3,h.w4,h.w24,h.p1,h.p10,h.m10,h.mn,h.pn⟩
def cQ:fP ps ms R9=ps:=g_ rfl
def di:fP ps ms Sc=ms:=f_ zk
inductive JA(p:Ts)(d:Ts)(lf:Ts)(fs:TM)(H:Hp)(σ:St)(H':Hp):Prop
 |mk(lb:_)(r:Nat):σ=[some (.ref p),some (.ref d),some (.ref lf),some (.ref lb),some (.int r)]->N6 H' p->Of p H H'->p≠lb->H' lb=some (.lst (gu (dw "number" fs fs.length)))->JA p d lf fs H σ H'
def jp(h:aR W ps ms fs 0 e):∀m,aR W ps ms fs m e:=by
 intro m;cases e<;>cases m<;>first|exact h|(simp[aR]at h⊢;done)|(simp[aR]at h⊢;exact h)
inductive pW(vs:TQ)(H:Hp)(Q:VK)(Z3:XK):Prop
 |mk(p d lf W ps ms fs:_):vs=[.ref p,.ref d,.ref lf]->Lx H p d lf W ps ms fs->(∀v H' e,N6 H' p->Of p H H'->Pd H' e v->(∀m,aR W ps ms fs m e)->Q v H')->pW vs H Q Z3
inductive rT(m:Nat)(vs:TQ)(H:Hp)(Q:VK):Prop
 |mk(p d lf W ps ms fs:_)(k:Nat):vs=[.ref p,.ref d,.ref lf,.int k]->Lx H p d lf W ps ms fs->1<=k->k<=m+1->(∀v H' e,N6 H' p->Of p H H'->Pd H' e v->aR W ps ms fs (k-1) e->Q v H')->rT m vs H Q
def kM :Nat->Sp
 |0=>nj
 |m+1=>fun vs H Q _=>rT m vs H Q
def E7(w:Nat):(1*2^((w:Int)).toNat:Int)=((2^w:Nat):Int):=by
 rw[Lf,Int.one_mul,Int.natCast_pow];rfl
section
def Px:av [R6,R5,R7,"_law_numbers",SU] [R6,R5,R7] (ak o0):=cV zk
def xg:(["_law_j",Sn,Sv]:TH).Nodup:=by decide +kernel
def zD(F:Ob K "_law_atom" "_law_atom" o0 f fd)(B:Bl mg)(B3:EH mg)(G':Fn P w K mg base "_law_take" 1 [R6,Sq] eO)(SL:Fn P w K mg base "_law_sel" 2 [R6,Sv,R5,R7] mD):NZ P w K mg base bZ 3 f fd [R6,R5,R7] pW:=by
 have ZZ:=Px
 walk_at "o"
 ·obtain⟨p,d,lf,W,ps,ms,fs,rfl,hL,q⟩:=h;have hu:=eY hr;walk_at "v"
  have h3:=hL.f3;refine⟨_,af (lJ (i:=3) Px.nd rfl rfl (N':=["_law_j",Sn,Sv]) (ix:=[none,none,none]) (sc0:=ak o0) (N:=[R6,R5,R7,"_law_numbers",SU]) rfl zk (kE rfl B3.enumerate (aa (pv 2) ac))
     (fun C' cl s H fp=>dh (K:=K) (n:=2) rfl rfl (aw (cG (i:=0) xg) (aw (dh (K:=K) (n:=2) rfl rfl (aw (cG (i:=1) xg) (aw (cG (i:=2) xg) bB))) bB))) (fun _ _ _ _ _=>iC (ap aW (pv 2) ai)) (fun C' cl s H fp=>pv 0))
   (bf (JA p d lf fs H) (bL (i:=4) Px.nd (ar G' hr.m rfl (aa (pv 0) (aa ah ac))))
   (af (aQ (c9 (fun σ H'=>JA p d lf fs H σ H'/\dw "number" fs fs.length≠[]) (JA p d lf fs H) (PW.pt (bY (ap aW (pv 4) ah) (bM (ap (OK hr) (pv 3) (aT ac))))))
     (aj (aq (ay (aa ai (aa (ax aP (pv 3) (ar G' hr.m rfl (aa (pv 0) (aa (aC aY (by rfl) B.len Kt (aa (pv 3) ac)) ac)))) ac))))) aB)
   (af (aQ (c9 (fun σ H'=>JA p d lf fs H σ H'/\ms≠[]) (JA p d lf fs H) (PW.pt (bY (ap aW (pv 4) ah) (bM (ap (OK hr) (aZ hu (pv 1) ai) (aT ac))))))
     (aj (aq (ay (aa ai (aa (ar SL hr rfl (aa (pv 0) (aa ai (aa (pv 1) (aa (pv 2) ac))))) ac))))) aB)
   (af (aQ (ap aW (pv 4) ah) (aj (aq (ay (aa ai (aa (ar G' hr.m rfl (aa (pv 0) (aa ah ac))) ac))))) aB)
   (af (aQ (ap aW (pv 4) ah) (aj (aq (ay (aa ai (aa (ar G' hr.m rfl (aa (pv 0) (aa (aA xW ah (aZ hu (pv 1) ai)) ac))) ac))))) aB)
   (aj (aq (ay (aa ai (aa (ar SL hr rfl (aa (pv 0) (aa ai (aa (pv 1) (aa (pv 2) ac))))) ac)))))))))),?_⟩
  obtain⟨us,Wv,L9⟩:=id hL.f;have lu:=L9.length;refine⟨_,rfl,lf,rfl,⟨_,N0.of Wv⟩,?_⟩;refine kL (K:=K) (l:=lf) (xs:=us) (fun i ys H'=>NV H H'/\ys=gu (dw "number" fs i)) ⟨NV.refl _,rfl⟩ (fun i ys H' hi⟨s',e'⟩=>⟨N0.of (s' _ _ Wv),by rw[e',fO];have:=ie "number" fs i;lia⟩) ?_ ?_
  ·rintro i x ys H1 T1 hx nT ⟨s1,rfl⟩;obtain⟨z,hz,pf,rfl,U3⟩:=gq L9 hx;have s2:=ag (o:=.tup [.int (i:Int),.ref pf]) nT;have Mc:=s1.trans s2;have Md:=(JV.mp hx).1;refine⟨T1,_,rfl,NY.of ae,rfl,_,_,rfl,_,_,rfl,⟨pf,_,rfl,NY.of (Mc _ _ U3),rfl,_,_,rfl,_,_,rfl,rfl,rfl,trivial,?_⟩⟩;refine⟨_,rfl,rfl,_,rfl,bW (fun h=>?_) (fun h=>?_)⟩
   ·have h':z.2="number":=V.str.inj (k_ h);refine⟨_,rfl,Nx.mk Md ⟨Mc,?_⟩⟩;rw[eJ hz,g_ h'];unfold gu;rw[Kb];rfl
   ·have h':¬z.2="number":=fun e=>h (b_ (by rw[e]));refine Nx.mk Md ⟨Mc,?_⟩;rw[eJ hz,f_ h',KB]
  ·rintro ys H1 ⟨s1,rfl⟩ lb VA;rw[lu];have Y8:=ie "number" fs fs.length;generalize zz:aI H1 lb _=H2;have s2:=(nw VA zz).1;have e2:H2 lb=some (.lst (gu (dw "number" fs fs.length))):=(nw VA zz).2;clear zz;have T':p≠lb:=(hL.g.same s1).ne VA;have VF:=s1.trans s2;refine⟨?_,?_⟩
   ·rintro σ H4 ⟨lb,r,rfl,g4,b4,T',e4⟩;refine⟨?_,?_,?_⟩
    ·rintro H5 ⟨⟨VQ,r',e,g5,b5,UG,e5⟩,Ma⟩;cases e;have Uw:0<(dw "number" fs fs.length).length:=Ll.mpr Ma;refine⟨_,rfl,_,rfl,_,rfl,lb,_,rfl,.inl (N0.of e5),?_⟩;rw[fO];refine⟨p,(dw "number" fs fs.length).length,rfl,g5,Uw,zo,fun j H6 hj g6 b6=>?_⟩;obtain⟨z,hz⟩:=mB (KJ hj);refine⟨lb,_,_,_,rfl,rfl,N0.of (b6 _ _ e5 T'.symm),aU (pS hj),N5,fun t nt=>?_⟩;have s7:=ag (o:=.tup [.str "field",.int ((dw "number" fs fs.length)[j]:Nat)]) nt;exact q _ _ (.fld (dw "number" fs fs.length)[j]) (g6.same s7) ((b5.trans b6).same s7) ⟨t,rfl,ae⟩ (jp (by simp only[aR];exact⟨z,hz⟩))
    ·rintro H5 ⟨VQ,r',e,g5,b5,UG,e5⟩;cases e;refine⟨?_,?_,?_⟩
     ·rintro H6 ⟨⟨VQ,r',e,g6,b6,UG,e6⟩,Ma⟩;cases e;have L6:=hL.but g6 b6;have Yj:1<=ms.length:=Ll.mpr Ma;refine⟨_,rfl,_,rfl,_,rfl,p,Sc,d,lf,W,ps,ms,fs,rfl,L6.g,L6.t,L6.f,L6.f3,.inr rfl,by rw[di];exact Yj,by rw[di];exact L6.m10,fun v H7 b n g7 b7 hv hs=>⟨N5,fun t nt=>?_⟩⟩;rw[di]at hs;have s8:=ag (o:=.tup [.str Sc,v]) nt;exact q _ _ (.mk b n) (g7.same s8) ((b6.trans b7).same s8) ⟨t,v,rfl,ae,hv.kt (ao s8)⟩ (jp (by simp only[aR];exact hs))
     ·rintro H6 ⟨VQ,r',e,g6,b6,UG,e6⟩;cases e;have L6:=hL.but g6 b6;refine⟨_,rfl,rfl,_,rfl,bW (fun h=>?_) (fun h=>?_)⟩
      ·refine⟨_,rfl,p,4,rfl,g6,zd,zd,fun j H7 hj g7 b7=>⟨N5,fun t nt=>?_⟩⟩;have s8:=ag (o:=.tup [.str "number",.int (j:Nat)]) nt;have h16:2^4<=2^W:=KS zd L6.w4;exact q _ _ (.num j) (g7.same s8) ((b6.trans b7).same s8) ⟨t,rfl,ae⟩ (jp (by simp only[aR];lia))
      refine⟨_,rfl,rfl,_,rfl,bW (fun h=>?_) (fun h=>?_)⟩
      ·obtain⟨kvs,lp,lm,a1,a2,a3,a4,a5,a6⟩:=L6.t;have hw:=L6.w24;have h24:2^W<=2^24:=KS zd hw;have Uw:0<2^W:=Ru zd;refine⟨_,rfl,_,rfl,d,_,rfl,bj a1 a2,_,_,rfl,rfl,⟨zo,zo,by show(1:Int).natAbs<_;decide⟩,?_⟩;refine⟨p,2^W,e_ (fun x=>[V.ref p,V.int x]) (E7 W),g6,Uw,zo,fun j H7 hj g7 b7=>⟨N5,fun t nt=>?_⟩⟩;have s8:=ag (o:=.tup [.str "number",.int (j:Nat)]) nt;exact q _ _ (.num j) (g7.same s8) ((b6.trans b7).same s8) ⟨t,rfl,ae⟩ (jp (by simp only[aR];exact hj))
      refine⟨_,rfl,_,rfl,_,rfl,p,R9,d,lf,W,ps,ms,fs,rfl,L6.g,L6.t,L6.f,L6.f3,.inl rfl,by rw[cQ];exact L6.p1,by rw[cQ];exact L6.p10,fun v H7 b n g7 b7 hv hs=>⟨N5,fun t nt=>?_⟩⟩;rw[cQ]at hs;have s8:=ag (o:=.tup [.str R9,v]) nt;exact q _ _ (.pl b n) (g7.same s8) ((b6.trans b7).same s8) ⟨t,v,rfl,ae,hv.kt (ao s8)⟩ (jp (by simp only[aR];exact hs))
     ·have L5:=hL.but g5 b5;refine⟨_,rfl,rfl,_,rfl,bW (fun h=>?_) (fun h=>bK ⟨lb,r,rfl,g5,b5,T',e5⟩)⟩;obtain⟨kvs,lp,lm,a1,a2,a3,a4,a5,a6⟩:=L5.t;refine⟨_,rfl,d,_,rfl,bj a1 a4,N5,fun le Vz=>?_⟩;generalize zz:aI H5 le _=H6;have⟨s6,e6⟩:=nw Vz zz;clear zz;refine pV (fun z hz=>(L5.mn z hz).1) (s6 _ _ a6) e6 ⟨_,rfl,bW (fun h=>⟨⟨lb,r,rfl,g5.same s6,b5.same s6,T',s6 _ _ e5⟩,?_⟩) (fun h=>⟨lb,r,rfl,g5.same s6,b5.same s6,T',s6 _ _ e5⟩)⟩;intro e;rw[e]at h;simp at h
    ·refine⟨_,rfl,rfl,_,rfl,bW (fun h=>?_) (fun h=>bK ⟨lb,r,rfl,g4,b4,T',e4⟩)⟩;refine⟨_,rfl,N5,fun le Vz=>?_⟩;generalize zz:aI H4 le _=H6;have⟨s6,e6⟩:=nw Vz zz;clear zz;refine pU (s6 _ _ e4) e6 ⟨_,rfl,bW (fun h=>⟨⟨lb,r,rfl,g4.same s6,b4.same s6,T',s6 _ _ e4⟩,?_⟩) (fun h=>⟨lb,r,rfl,g4.same s6,b4.same s6,T',s6 _ _ e4⟩)⟩;intro e;rw[e]at h;simp at h
   ·refine⟨_,rfl,p,6,rfl,hL.g.same VF,zd,zd,fun r H4 LV g4 b4=>?_⟩;exact⟨lb,r,rfl,g4,(dW VF).trans b4,T',b4 _ _ e2 T'.symm⟩
end
def E8(h:i<9):([V.str "+",.str "-",.str "&",.str "|",.str "^",.str "<<",.str ">>",.str "<",.str "="]:TQ)[i]?=some (.str (Oi.getD i ""))/\Oi.getD i ""∈Oi:=by
 have e:([V.str "+",.str "-",.str "&",.str "|",.str "^",.str "<<",.str ">>",.str "<",.str "="]:TQ)=al Oi:=rfl;have hl:i<Oi.length:=h;rw[e];unfold al;rw[Kl,J1 hl,Kv,J1 hl];exact⟨rfl,KJ hl⟩
def qx:Ed->PyData
 |.num n=>.tuple [.str "number",.int (n:Nat)]
 |.fld j=>.tuple [.str "field",.int (j:Nat)]
 |.pl b n=>.tuple [.str R9,.tuple [.str (jX b),.int (n:Nat)]]
 |.mk b n=>.tuple [.str Sc,.tuple [.str (jX b),.int (n:Nat)]]
 |.cell e=>.tuple [.str "cell",qx e]
 |.two o x y=>.tuple [.str o,qx x,qx y]
def Cp(b:Bool):kD (jX b)=true:=by cases b<;>decide +kernel
def Cq(h:o∈Oi):kD o=true:=by
 have:∀z∈Oi,kD z=true:=by decide +kernel
 exact this o h
def Qc.td(h:Qc H b n v):Td H v (.tuple [.str (jX b),.int (n:Nat)]):=by
 obtain⟨q,rfl,e⟩:=h;exact .tup e (.cons (.str _ (Cp b)) (.cons (.int _) .nil))
def Pd.td:∀{m:Nat}{e:Ed}{v:V},Pd H e v->aR W ps ms fs m e->Td H v (qx e)
 |_,.num _,_,⟨p,rfl,e⟩,_=>.tup e (.cons (.str _ zk) (.cons (.int _) .nil))
 |_,.fld _,_,⟨p,rfl,e⟩,_=>.tup e (.cons (.str _ zk) (.cons (.int _) .nil))
 |_,.pl _ _,_,⟨p,u,rfl,e,h⟩,_=>.tup e (.cons (.str _ zk) (.cons h.td .nil))
 |_,.mk _ _,_,⟨p,u,rfl,e,h⟩,_=>.tup e (.cons (.str _ zk) (.cons h.td .nil))
 |0,.cell _,_,_,h=>absurd h (by simp[aR])
 |m+1,.cell e,_,⟨p,u,rfl,a,b⟩,h=>.tup a (.cons (.str _ zk) (.cons (Pd.td (m:=m) (e:=e) b (by simpa[aR]using h)) .nil))
 |0,.two _ _ _,_,_,h=>absurd h (by simp[aR])
 |m+1,.two o x y,_,⟨p,u,t,rfl,a,b,c⟩,h=>by
  have h':o∈Oi/\aR W ps ms fs m x/\aR W ps ms fs m y:=by simpa[aR]using h
  exact .tup a (.cons (.str _ (Cq h'.1)) (.cons (Pd.td (m:=m) b h'.2.1) (.cons (Pd.td (m:=m) c h'.2.2) .nil)))
def zE(b:Bool)(n:Nat):(PyData.tuple [.str (jX b),.int (n:Nat)]).depth<=3:=by simp[PyData.depth,PyData.depthAll]
def iS:∀{m:Nat}{e:Ed},aR W ps ms fs m e->(qx e).depth<=m+5
 |_,.num _,_=>by simp[qx,PyData.depth,PyData.depthAll]
 |_,.fld _,_=>by simp[qx,PyData.depth,PyData.depthAll]
 |_,.pl _ _,_=>by simp[qx,PyData.depth,PyData.depthAll]
 |_,.mk _ _,_=>by simp[qx,PyData.depth,PyData.depthAll]
 |0,.cell _,h=>absurd h (by simp[aR])
 |m+1,.cell e,h=>by
  have:=iS (m:=m) (e:=e) (by simpa[aR]using h);simp only[qx,PyData.depth,PyData.depthAll];lia
 |0,.two _ _ _,h=>absurd h (by simp[aR])
 |m+1,.two o x y,h=>by
  have h':o∈Oi/\aR W ps ms fs m x/\aR W ps ms fs m y:=by simpa[aR]using h
  have:=iS (m:=m) h'.2.1;have:=iS (m:=m) h'.2.2;simp only[qx,PyData.depth,PyData.depthAll];lia
def kN:∀{m:Nat}{e:Ed},aR W ps ms fs m e->aR W ps ms fs (m+1) e
 |0,.num _,h=>jp h _
 |_+1,.num _,h=>by simpa[aR]using h
 |0,.fld _,h=>jp h _
 |_+1,.fld _,h=>by simpa[aR]using h
 |0,.pl _ _,h=>jp h _
 |_+1,.pl _ _,h=>by simpa[aR]using h
 |0,.mk _ _,h=>jp h _
 |_+1,.mk _ _,h=>by simpa[aR]using h
 |0,.cell _,h=>absurd h (by simp[aR])
 |m+1,.cell e,h=>by
  have:=kN (m:=m) (e:=e) (by simpa[aR]using h);simpa[aR]using this
 |0,.two _ _ _,h=>absurd h (by simp[aR])
 |m+1,.two o x y,h=>by
  have h':o∈Oi/\aR W ps ms fs m x/\aR W ps ms fs m y:=by simpa[aR]using h
  have h1:=kN (m:=m) h'.2.1;have h2:=kN (m:=m) h'.2.2;simp only[aR];exact⟨h'.1,h1,h2⟩
section
def Pr:av [R6,R5,R7,Sr,SU,"_law_op"] [R6,R5,R7,Sr] (ak sX):=cV zk
def jq(F:Ob K "_law_expr" "_law_expr" sX f fd)(G':Fn P w K mg base "_law_take" 1 [R6,Sq] eO)(AT:Fn P w K mg base "_law_atom" 3 [R6,R5,R7] pW)(EX:Fn P w K mg base "_law_expr" n [R6,R5,R7,Sr] (kM m))(hn:3<=n):NZ P w K mg base bZ (n+1) f fd [R6,R5,R7,Sr] (kM (m+1)):=by
 have ZZ:=Pr
 walk_at "o"
 ·obtain⟨p,d,lf,W,ps,ms,fs,k,rfl,hL,hk1,Vo,q⟩:=h;have LU:N1 1 _:=hr.mono zo;have Uu:N1 3 _:=hr.mono zo;refine⟨_,af (bL (i:=4) Pr.nd (ar G' LU rfl (aa (pv 0) (aa ah ac))))
   (af (aQ (c9 (fun _ H'=>N6 H' p/\Of p H H') (fun _ H'=>N6 H' p/\Of p H H'/\2<=k) (PW.pt (dP (ap dY (pv 3) ah) (c8 (ap dY (pv 4) ah))))) (aj (aq (ar AT Uu rfl (aa (pv 0) (aa (pv 1) (aa (pv 2) ac)))))) aB)
   (af (aQ (ap aW (pv 4) ah) (aj (aq (ay (aa ai (aa (ar EX hr rfl (aa (pv 0) (aa (pv 1) (aa (pv 2) (aa (aA fY (pv 3) ah) ac))))) ac))))) aB)
   (af (bL (i:=5) Pr.nd (ax aP (aT (aa ai (aa ai (aa ai (aa ai (aa ai (aa ai (aa ai (aa ai (aa ai ac)))))))))) (ar G' LU rfl (aa (pv 0) (aa ah ac)))))
   (aj (aq (ay (aa (pv 5) (aa (ar EX hr rfl (aa (pv 0) (aa (pv 1) (aa (pv 2) (aa (aA fY (pv 3) ah) ac))))) (aa (ar EX hr rfl (aa (pv 0) (aa (pv 1) (aa (pv 2) (aa (aA fY (pv 3) ah) ac))))) ac))))))))),?_⟩
  refine⟨_,rfl,p,6,rfl,hL.g,zd,zd,fun r H1 LV g1 b1=>?_⟩;refine⟨?_,?_,?_⟩
  ·rintro H2 ⟨g2,b2⟩;exact⟨_,rfl,_,rfl,_,rfl,p,d,lf,W,ps,ms,fs,rfl,hL.but g2 b2,fun v H3 e g3 b3 hv he=>q v H3 e g3 (b2.trans b3) hv (he _)⟩
  ·rintro H2 ⟨g2,b2,Wn⟩;have L2:=hL.but g2 b2;obtain⟨k',rfl⟩:∃k',k=k'+2:=⟨k-2,zo⟩;have ek:((k'+2:Nat):Int)-1=((k'+1:Nat):Int):=by lia
   cases m with
   |zero=>lia
   |succ m=>
    refine⟨_,rfl,rfl,_,rfl,bW (fun h=>?_) (fun h=>?_)⟩
    ·refine⟨_,rfl,_,rfl,_,rfl,_,rfl,_,_,rfl,rfl,?_⟩;refine⟨p,d,lf,W,ps,ms,fs,k'+1,e_ (fun x=>[V.ref p,V.ref d,V.ref lf,V.int x]) ek,L2,zo,zo,fun v H3 e g3 b3 hv he=>⟨N5,fun t nt=>?_⟩⟩;have s4:=ag (o:=.tup [.str "cell",v]) nt;exact q _ _ (.cell e) (g3.same s4) ((b2.trans b3).same s4) ⟨t,v,rfl,ae,hv.kt (ao s4)⟩ (by show aR W ps ms fs (k'+1) (.cell e);simp only[aR];exact he)
    refine⟨N5,fun lo no=>?_⟩;generalize zz:aI H2 lo _=H3;have⟨s3,e3⟩:=nw no zz;clear zz;have plo:p≠lo:=g2.ne no;refine⟨_,rfl,p,9,rfl,g2.same s3,zd,zd,fun oi H4 ho g4 b4=>?_⟩;obtain⟨TR,TV⟩:=E8 ho;refine⟨lo,_,_,_,rfl,rfl,N0.of (b4 _ _ e3 plo.symm),aU TR,?_⟩;have W8:Of p H H4:=(b2.same s3).trans b4;have L4:=hL.but g4 W8;refine⟨_,rfl,_,rfl,_,rfl,_,rfl,_,rfl,_,_,rfl,rfl,?_⟩;refine⟨p,d,lf,W,ps,ms,fs,k'+1,e_ (fun x=>[V.ref p,V.ref d,V.ref lf,V.int x]) ek,L4,zo,zo,fun v5 H5 e5 g5 b5 hv5 he5=>?_⟩;have L5:=L4.but g5 b5;refine⟨_,rfl,_,rfl,_,rfl,_,rfl,_,_,rfl,rfl,?_⟩;refine⟨p,d,lf,W,ps,ms,fs,k'+1,e_ (fun x=>[V.ref p,V.ref d,V.ref lf,V.int x]) ek,L5,zo,zo,fun v6 H6 e6 g6 b6 hv6 he6=>⟨N5,fun t nt=>?_⟩⟩;have s7:=ag (o:=.tup [.str (Oi.getD oi ""),v5,v6]) nt;exact q _ _ (.two (Oi.getD oi "") e5 e6) (g6.same s7) (((W8.trans b5).trans b6).same s7) ⟨t,v5,v6,rfl,ae,(hv5.kt (dX g5 b6)).kt (ao s7),hv6.kt (ao s7)⟩ (by show aR W ps ms fs (k'+1) (.two _ e5 e6);simp only[aR];exact⟨TV,he5,he6⟩)
  ·refine⟨_,rfl,_,_,rfl,rfl,_,rfl,bW (fun h=>?_) (fun h=>?_)⟩
   ·exact im ⟨g1,b1⟩
   ·have Wn:2<=k:=by
     have:¬((k:Int)<2):=fun e=>h (b_ e);lia
    refine⟨_,rfl,_,_,rfl,rfl,_,rfl,bW (fun h=>?_) (fun h=>?_)⟩
    ·exact⟨g1,b1⟩
    ·exact⟨g1,b1,Wn⟩
end
def Sd.isCell:Sd->Bool
 |.cell _ _=>true
 |_=>false
def eU(W:Nat)(ps ms:TH)(fs:TM)(m:Nat):Sd->Prop
 |.cell a e=>aR W ps ms fs (m-1) a/\aR W ps ms fs m e
 |.pl b n e=>cw ps R9 fs b n/\aR W ps ms fs m e
 |.mk b n e=>cw ms Sc fs b n/\aR W ps ms fs m e
def zF:Sd->PyData
 |.cell a e=>.tuple [.str "cell",qx a,qx e]
 |.pl b n e=>.tuple [.str R9,.tuple [.str (jX b),.int (n:Nat)],qx e]
 |.mk b n e=>.tuple [.str Sc,.tuple [.str (jX b),.int (n:Nat)],qx e]
def Jw:Sd->Str
 |.cell _ _=>"cell"
 |.pl _ _ _=>R9
 |.mk _ _ _=>Sc
def zG(g:Sd):decide (V.str (Jw g)=V.str "cell")=g.isCell:=by
 cases g with
 |cell a e=>exact b_ rfl
 |pl b n e=>exact d_ fun e=>absurd (V.str.inj e) (by show(R9:Str)≠"cell";decide +kernel)
 |mk b n e=>exact d_ fun e=>absurd (V.str.inj e) (by show(Sc:Str)≠"cell";decide +kernel)
def Ou.at(h:Ou H g v):∃p r,v=.ref p/\H p=some (.tup (.str (Jw g)::r)):=by
 cases g with
 |cell a e=>obtain⟨p,u,t,a,b,_⟩:=h;exact⟨p,_,a,b⟩
 |pl b n e=>obtain⟨p,u,t,a,b,_⟩:=h;exact⟨p,_,a,b⟩
 |mk b n e=>obtain⟨p,u,t,a,b,_⟩:=h;exact⟨p,_,a,b⟩
def Ou.td(h:Ou H g v)(ho:eU W ps ms fs m g):Td H v (zF g):=by
 cases g with
 |cell a e=>obtain⟨p,u,t,rfl,b,c,d⟩:=h;exact .tup b (.cons (.str _ zk) (.cons (c.td ho.1) (.cons (d.td ho.2) .nil)))
 |pl b n e=>obtain⟨p,u,t,rfl,b,c,d⟩:=h;exact .tup b (.cons (.str _ zk) (.cons c.td (.cons (d.td ho.2) .nil)))
 |mk b n e=>obtain⟨p,u,t,rfl,b,c,d⟩:=h;exact .tup b (.cons (.str _ zk) (.cons c.td (.cons (d.td ho.2) .nil)))
def uf:∀{us:TQ}{s:List Sd},Paired (fun v g=>Ou H g v) us s->(∀g∈s,eU W ps ms fs m g)->Od H us (s.map zF)
 |_,_,.nil,_=>.nil
 |_,_,.cons h t,ho=>.cons (Ou.td h (ho _ JW)) (uf t fun g hg=>ho g (JZ _ hg))
def zH:∀{us:TQ}{ds:List PyData},Od H us ds->us.length=ds.length
 |_,_,.nil=>rfl
 |_,_,.cons _ t=>by rw[JX,JX,zH t]
def Cr(ha:H a=some (.lst us))(ht:Od H us ds)(hb:H b=some (.lst []))(q:Q (.bl (decide (us.length=0))) H):QU K (.ref a) (.ref b) H Q:=by
 have hl:=zH ht;refine⟨.list ds,_,.lst (N0.of ha) ht.dt,.lst (N0.of hb) .nil,ht.lay,rfl,Kx (RO _ _) (by simp[PyData.depth,PyData.depthAll]),?_⟩;have e:PyData.eqv (.list ds) (.list [])=decide (us.length=0):=by
  rw[hl];cases ds with
  |nil=>simp[PyData.eqv,PyData.eqvAll]
  |cons x r=>simp[PyData.eqv,PyData.eqvAll]
 rw[e];exact q
inductive pX(m:Nat)(vs:TQ)(H:Hp)(Q:VK)(Z3:XK):Prop
 |mk(p d lf W ps ms fs:_)(k:Nat):vs=[.ref p,.ref d,.ref lf,.int k]->Lx H p d lf W ps ms fs->2<=k->k<=m->(∀t us(s:List Sd)H',N6 H' p->Of p H H'->H' t=some (.tup us)->Paired (fun v g=>Ou H' g v) us s->s.length<=4->(s.filter Sd.isCell).length<=1->(∀g∈s,eU W ps ms fs (k-1) g)->Q (.ref t) H')->pX m vs H Q Z3
def Cs(h:r<8):([V.int 0,.int 1,.int 1,.int 2,.int 2,.int 3,.int 1,.int 4]:TQ)[r]?=some (.int (([0,1,1,2,2,3,1,4]:TJ).getD r 0:Nat))/\([0,1,1,2,2,3,1,4]:TJ).getD r 0<=4:=by
 have:∀r<8,([0,1,1,2,2,3,1,4]:TJ).getD r 0<=4:=by decide
 refine⟨?_,this r h⟩
 match r,h with
 |0,_=>rfl
 |1,_=>rfl
 |2,_=>rfl
 |3,_=>rfl
 |4,_=>rfl
 |5,_=>rfl
 |6,_=>rfl
 |7,_=>rfl
structure SI(H:Hp)(p ls:Ts)(W:Nat)(ps ms:TH)(fs:TM)(m i:Nat)(H':Hp):Prop where
 g:N6 H' p
 b:Of p H H'
 x:∃us,∃s:List Sd,H' ls=some (.lst us)/\Paired (fun v g=>Ou H' g v) us s/\s.length=i/\(s.filter Sd.isCell).length<=1/\∀g∈s,eU W ps ms fs m g
def SI.next{H H':Hp}{p ls:Ts}{W:Nat}{ps ms:TH}{fs:TM}{m i:Nat}(h:SI H p ls W ps ms fs m i H')(nl:H ls=none)(pl:p≠ls){us:TQ}{s:List Sd}(e:H' ls=some (.lst us))(hp:Paired (fun v g=>Ou H' g v) us s)(hl:s.length=i)(hc:(s.filter Sd.isCell).length<=1)(ho:∀g∈s,eU W ps ms fs m g){v:V}{g:Sd}(hv:Ou H' g v)(hg:eU W ps ms fs m g)(hgc:g.isCell=true->s.filter Sd.isCell=[]):SI H p ls W ps ms fs m (i+1) (aI H' ls (.lst (us++[v]))):=by
 have k:N9 H' (aI H' ls (.lst (us++[v]))):=fun b xs eb=>by
  rw[am]
  ·exact eb
  ·rintro rfl;rw[e]at eb;cases eb
 refine⟨?_,?_,us++[v],s++[g],ae,gO (R:=fun v' g=>Ou (aI H' ls (.lst (us++[v]))) g v') (hv.kt k) (bF (R:=fun v g=>Ou H' g v) (fun _ _ h=>Ou.kt k h) hp),by rw[JU,hl];rfl,?_,?_⟩
 ·obtain⟨x,y,z,ex⟩:=h.g;exact⟨x,y,z,by rw[am pl];exact ex⟩
 ·intro b o eb nb;rw[am (az eb nl)];exact h.b _ _ eb nb
 ·rw[LA,JU];cases Y_:g.isCell with
  |true=>rw[hgc Y_];simp[Y_]
  |false=>simp[Y_];lia
 ·intro g' UN;rcases Ko.mp UN with h'|h'
  ·exact ho g' h'
  ·rw[Kz.mp h'];exact hg
def SI.but(h:SI H p ls W ps ms fs m i H1)(pl:p≠ls)(g:N6 H2 p)(b:Of p H1 H2):SI H p ls W ps ms fs m i H2:=by
 obtain⟨us,s,e,hp,h1,h2,h3⟩:=h.x;exact⟨g,h.b.trans b,us,s,b _ _ e pl.symm,bF (R:=fun v g=>Ou H1 g v) (fun _ _ h'=>Ou.kt (dX h.g b) h') hp,h1,h2,h3⟩
section
def OG:av [R6,R5,R7,Sr,Sq,"_law_sets_here",SZ,SU,"_law_value"] [R6,R5,R7,Sr] (ak o6):=cV zk
def G5:([Th]:TH).Nodup:=by decide +kernel
inductive JS(H:Hp)(p:Ts)(d:Ts)(lf:Ts)(ls:Ts)(W:Nat)(ps:TH)(ms:TH)(fs:TM)(k:Nat)(J':Nat)(m:Nat)(i:Nat)(σ:St)(H':Hp):Prop
 |mk(r:Nat)(v:V)(e:Ed):σ=[some (.ref p),some (.ref d),some (.ref lf),some (.int k),some (.int J'),some (.ref ls),some (.int (i:Nat)),some (.int r),some v]->SI H p ls W ps ms fs m i H'->Pd H' e v->aR W ps ms fs m e->JS H p d lf ls W ps ms fs k J' m i σ H'
inductive mE(H:Hp)(p:Ts)(d:Ts)(lf:Ts)(W:Nat)(ps:TH)(ms:TH)(fs:TM)(k:Nat)(σ:St)(H':Hp):Prop
 |mk(ls J' i:_):JS H p d lf ls W ps ms fs k J' (k-1) i σ H'->H ls=none->p≠ls->i<4->mE H p d lf W ps ms fs k σ H'
inductive zI(H:Hp)(p:Ts)(d:Ts)(lf:Ts)(W:Nat)(ps:TH)(ms:TH)(fs:TM)(k:Nat)(σ:St)(H':Hp):Prop
 |mk(ls J' i:_):JS H p d lf ls W ps ms fs k J' (k-1) i σ H'->H ls=none->p≠ls->i<4->(∃us,∃s:List Sd,H' ls=some (.lst us)/\Paired (fun v g=>Ou H' g v) us s/\s.length=i/\s.filter Sd.isCell=[]/\∀g∈s,eU W ps ms fs (k-1) g)->zI H p d lf W ps ms fs k σ H'
def zJ(F:Ob K "_law_sets" "_law_sets" o6 f fd)(B:Bl mg)(G':Fn P w K mg base "_law_take" 1 [R6,Sq] eO)(SL:Fn P w K mg base "_law_sel" 2 [R6,Sv,R5,R7] mD)(EX:Fn P w K mg base "_law_expr" n [R6,R5,R7,Sr] (kM (m+1)))(hn:2<=n):NZ P w K mg base bZ (n+1) f fd [R6,R5,R7,Sr] (pX (m+1)):=by
 have ZZ:=OG
 walk_at "o"
 ·obtain⟨p,d,lf,W,ps,ms,fs,k,rfl,hL,Wn,Vo,q⟩:=h;have hu:=eY hr;have LU:N1 1 _:=hr.mono zo;have LV:N1 2 _:=hr.mono zo;walk_at "v"
  refine⟨_,af (bL (i:=4) OG.nd (ax aP (aT (aa ah (aa ah (aa ah (aa ah (aa ah (aa ah (aa ah (aa ah ac))))))))) (ar G' LU rfl (aa (pv 0) (aa ah ac)))))
   (af (bL (i:=5) OG.nd (aT ac))
   (af (dB h_ rfl (gR rfl B.range (aa (pv 4) ac)) (cG (i:=6) OG.nd)
    (af (bL (i:=7) OG.nd (ar G' LU rfl (aa (pv 0) (aa ah ac))))
    (af (bL (i:=8) OG.nd (ar EX hr rfl (aa (pv 0) (aa (pv 1) (aa (pv 2) (aa (pv 3) ac))))))
    (aj (aQ (c9 (zI H p d lf W ps ms fs k) (mE H p d lf W ps ms fs k) (PW.pt (bY (ap aW (pv 7) ah) (bM (ap (Qx hr) (dQ (N':=[Th]) (ix:=[none]) (sc0:=ak o6) (N:=[R6,R5,R7,Sr,Sq,"_law_sets_here",SZ,SU,"_law_value"]) rfl zk (de (pv 5))
      (fun C' cl s H fp=>cG (i:=0) G5) (fun _ _ _ _ _=>iC (ap aW (ax (kH (K:=K) rfl) (pv 0) ah) ai)) (fun C' cl s H fp=>pv 0)) (aT ac))))))
     (aj (aM (cu Kp Kk Kj bz (pv 5) (aa (ay (aa ai (aa (ar EX hr rfl (aa (pv 0) (aa (pv 1) (aa (pv 2) (aa (aA fY (pv 3) ah) ac))))) (aa (pv 8) ac)))) ac))))
     (aj (aQ (c9 (fun σ H'=>mE H p d lf W ps ms fs k σ H'/\ms≠[]) (mE H p d lf W ps ms fs k) (PW.pt (bY (ap aW (pv 7) ah) (bM (ap (OK hr) (aZ hu (pv 1) ai) (aT ac))))))
      (aj (aM (cu Kp Kk Kj bz (pv 5) (aa (ay (aa ai (aa (ar SL LV rfl (aa (pv 0) (aa ai (aa (pv 1) (aa (pv 2) ac))))) (aa (pv 8) ac)))) ac))))
      (aj (aM (cu Kp Kk Kj bz (pv 5) (aa (ay (aa ai (aa (ar SL LV rfl (aa (pv 0) (aa ai (aa (pv 1) (aa (pv 2) ac))))) (aa (pv 8) ac)))) ac)))))))))))
   (aj (aq (aV bh (by rfl) B.tuple br (aa (pv 5) ac)))))),?_⟩
  refine⟨N5,fun l8 n8=>?_⟩;generalize zz:aI H l8 _=H1;have⟨s1,e1⟩:=nw n8 zz;clear zz;have pl8:p≠l8:=hL.g.ne n8;refine⟨_,rfl,p,8,rfl,hL.g.same s1,zd,zd,fun mi H2 hmi g2 b2=>?_⟩;obtain⟨hma,hmb⟩:=Cs hmi;refine⟨l8,_,_,_,rfl,rfl,N0.of (b2 _ _ e1 pl8.symm),aU hma,?_⟩;generalize ([0,1,1,2,2,3,1,4]:TJ).getD mi 0=J' at*;have WD:Of p H H2:=(dW s1).trans b2;refine⟨N5,fun ls nls=>?_⟩;generalize zz:aI H2 ls _=H3;have⟨s3,e3⟩:=nw nls zz;clear zz;have UB:p≠ls:=g2.ne nls;have nl:H ls=none:=ue WD g2 nls;have I3:SI H p ls W ps ms fs (k-1) 0 H3:=⟨g2.same s3,WD.same s3,[],[],e3,.nil,rfl,zd,fun g hg=>by cases hg⟩;refine⟨_,rfl,_,rfl,zo,zo,?_⟩;rw[show((J':Int)).toNat=J' from Lf J'];refine gS (lo:=0) (n:=J') (fun i σ H'=>∃v6 v7 v8:Option V,σ=[some (.ref p),some (.ref d),some (.ref lf),some (.int k),some (.int J'),some (.ref ls),v6,v7,v8]/\SI H p ls W ps ms fs (k-1) i H') ⟨_,_,_,rfl,I3⟩ ?_ ?_
  ·rintro i σ H4 hi ⟨v6,v7,v8,rfl,I4⟩;have Yl:i<J':=hi;have e0:((0:Int)+(i:Int))=(i:Int):=by lia
   rw[e0];refine⟨_,rfl,p,4,rfl,I4.g,zd,zd,fun r H5 hr5 g5 b5=>?_⟩;have I5:=I4.but UB g5 b5;refine⟨_,rfl,_,rfl,_,rfl,_,rfl,p,d,lf,W,ps,ms,fs,k,rfl,hL.but I5.g I5.b,zo,Vo,fun v H6 e g6 b6 hv he=>?_⟩;have I6:=I5.but UB g6 b6;have F':∀(H8:Hp)(r:Nat)(v vn:V)(g:Sd),SI H p ls W ps ms fs (k-1) i H8->∀us,∀s:List Sd,H8 ls=some (.lst us)->Paired (fun v g=>Ou H8 g v) us s->s.length=i->(s.filter Sd.isCell).length<=1->(∀g∈s,eU W ps ms fs (k-1) g)->Ou H8 g vn->eU W ps ms fs (k-1) g->(g.isCell=true->s.filter Sd.isCell=[])->∃v6 v7 v8:Option V,[some (.ref p),some (.ref d),some (.ref lf),some (.int k),some (.int J'),some (.ref ls),some (.int (i:Nat)),some (.int r),some v]=[some (.ref p),some (.ref d),some (.ref lf),some (.int k),some (.int J'),some (.ref ls),v6,v7,v8]/\SI H p ls W ps ms fs (k-1) (i+1) (aI H8 ls (.lst (us++[vn]))):=fun H8 r v vn g I8 us s e1 e2 e3 e4 e5 e6 e7 e8=>⟨_,_,_,rfl,I8.next nl UB e1 e2 e3 e4 e5 e6 e7 e8⟩;refine⟨?_,?_,?_⟩
   ·rintro H7 ⟨ls',Wd,i',⟨r',v',e',eσ,I7,hv7,he7⟩,nl',XN,Ww,us,ss,UU,L9,U2,VR,Vm⟩;have ei:(i:Int)=(i':Int):=by
     have:=e_ (fun l:List (Option V)=>l[6]?) eσ;simpa using this
    have XA:i=i':=by lia
    subst XA;cases eσ;refine⟨_,rfl,.inl ⟨rfl,_,N0.of UU⟩,?_⟩;refine⟨_,rfl,_,rfl,_,rfl,_,rfl,_,_,rfl,rfl,?_⟩;obtain⟨k',rfl⟩:∃k',k=k'+2:=⟨k-2,zo⟩;have ek:((k'+2:Nat):Int)-1=((k'+1:Nat):Int):=by lia
    refine⟨p,d,lf,W,ps,ms,fs,k'+1,e_ (fun x=>[V.ref p,V.ref d,V.ref lf,V.int x]) ek,hL.but I7.g I7.b,zo,zo,fun va H8 ea g8 b8 Wk Zd=>?_⟩;refine⟨_,rfl,N5,fun t nt=>?_⟩;generalize zz:aI H8 t _=H9;have⟨s9,e9⟩:=nw nt zz;clear zz;have Vs:Of p H7 H9:=b8.same s9;have I9:=I7.but UB (g8.same s9) Vs;have WV:N9 H7 H9:=dX I7.g Vs;refine⟨ls,_,_,rfl,rfl,Vs _ _ UU UB.symm,?_,?_⟩
    ·have:=L9.length;lia
    exact F' H9 _ _ _ (.cell ea e') I9 us ss (Vs _ _ UU UB.symm) (bF (R:=fun v g=>Ou H7 g v) (fun _ _ h'=>Ou.kt WV h') L9) U2 (by rw[VR];decide) Vm ⟨t,va,v,rfl,e9,Wk.kt (ao s9),hv7.kt WV⟩ ⟨Zd,he7⟩ (fun _=>VR)
   ·rintro H7 ⟨ls',Wd,i',⟨r',v',e',eσ,I7,hv7,he7⟩,nl',XN,Ww⟩;have ei:(i:Int)=(i':Int):=by
     have:=e_ (fun l:List (Option V)=>l[6]?) eσ;simpa using this
    have XA:i=i':=by lia
    subst XA;cases eσ;refine⟨?_,?_,?_⟩
    ·rintro H8 ⟨⟨ls',Wd,i',⟨r',v',e',eσ,I8,hv8,he8⟩,nl',XN,Ww⟩,Ma⟩;have ei:(i:Int)=(i':Int):=by
      have:=e_ (fun l:List (Option V)=>l[6]?) eσ;simpa using this
     have XA:i=i':=by lia
     subst XA;cases eσ;obtain⟨us,ss,UU,L9,U2,VR,Vm⟩:=I8.x;have L8:=hL.but I8.g I8.b;have Yj:1<=ms.length:=Ll.mpr Ma;refine⟨_,rfl,.inl ⟨rfl,_,N0.of UU⟩,?_⟩;refine⟨_,rfl,_,rfl,_,rfl,p,Sc,d,lf,W,ps,ms,fs,rfl,L8.g,L8.t,L8.f,L8.f3,.inr rfl,by rw[di];exact Yj,by rw[di];exact L8.m10,fun va Ha bb nn ga ba Wk hs=>?_⟩;rw[di]at hs;refine⟨_,rfl,N5,fun t nt=>?_⟩;generalize zz:aI Ha t _=H9;have⟨s9,e9⟩:=nw nt zz;clear zz;have Vs:Of p H8 H9:=ba.same s9;have I9:=I8.but UB (ga.same s9) Vs;have WV:N9 H8 H9:=dX I8.g Vs;refine⟨ls,_,_,rfl,rfl,Vs _ _ UU UB.symm,?_,?_⟩
     ·have:=L9.length;lia
     exact F' H9 _ _ _ (.mk bb nn e') I9 us ss (Vs _ _ UU UB.symm) (bF (R:=fun v g=>Ou H8 g v) (fun _ _ h'=>Ou.kt WV h') L9) U2 VR Vm ⟨t,va,v,rfl,e9,Wk.kt (ao s9),hv8.kt WV⟩ ⟨hs,he8⟩ (fun h=>by cases h)
    ·rintro H8 ⟨ls',Wd,i',⟨r',v',e',eσ,I8,hv8,he8⟩,nl',XN,Ww⟩;have ei:(i:Int)=(i':Int):=by
      have:=e_ (fun l:List (Option V)=>l[6]?) eσ;simpa using this
     have XA:i=i':=by lia
     subst XA;cases eσ;obtain⟨us,ss,UU,L9,U2,VR,Vm⟩:=I8.x;have L8:=hL.but I8.g I8.b;refine⟨_,rfl,.inl ⟨rfl,_,N0.of UU⟩,?_⟩;refine⟨_,rfl,_,rfl,_,rfl,p,R9,d,lf,W,ps,ms,fs,rfl,L8.g,L8.t,L8.f,L8.f3,.inl rfl,by rw[cQ];exact L8.p1,by rw[cQ];exact L8.p10,fun va Ha bb nn ga ba Wk hs=>?_⟩;rw[cQ]at hs;refine⟨_,rfl,N5,fun t nt=>?_⟩;generalize zz:aI Ha t _=H9;have⟨s9,e9⟩:=nw nt zz;clear zz;have Vs:Of p H8 H9:=ba.same s9;have I9:=I8.but UB (ga.same s9) Vs;have WV:N9 H8 H9:=dX I8.g Vs;refine⟨ls,_,_,rfl,rfl,Vs _ _ UU UB.symm,?_,?_⟩
     ·have:=L9.length;lia
     exact F' H9 _ _ _ (.pl bb nn e') I9 us ss (Vs _ _ UU UB.symm) (bF (R:=fun v g=>Ou H8 g v) (fun _ _ h'=>Ou.kt WV h') L9) U2 VR Vm ⟨t,va,v,rfl,e9,Wk.kt (ao s9),hv8.kt WV⟩ ⟨hs,he8⟩ (fun h=>by cases h)
    ·refine⟨_,rfl,rfl,_,rfl,bW (fun h=>?_) (fun h=>bK ⟨ls,J',i,⟨r,v,e',rfl,I7,hv7,he7⟩,nl,UB,Ww⟩)⟩;have L7:=hL.but I7.g I7.b;obtain⟨kvs,lp,lm,a1,a2,a3,a4,a5,a6⟩:=L7.t;refine⟨_,rfl,d,_,rfl,bj a1 a4,N5,fun le Vz=>?_⟩;generalize zz:aI H7 le _=H8;have⟨s8,e8⟩:=nw Vz zz;clear zz;have I8:=I7.but UB (I7.g.same s8) (dW s8);have hJ:mE H p d lf W ps ms fs k [some (.ref p),some (.ref d),some (.ref lf),some (.int k),some (.int J'),some (.ref ls),some (.int (i:Nat)),some (.int r),some v] H8:=⟨ls,J',i,⟨r,v,e',rfl,I8,hv7.kt (ao s8),he7⟩,nl,UB,Ww⟩;refine pV (fun z hz=>(L7.mn z hz).1) (s8 _ _ a6) e8 ⟨_,rfl,bW (fun h=>⟨hJ,?_⟩) (fun h=>hJ)⟩;intro em;rw[em]at h;simp at h
   ·have Ww:i<4:=by lia
    refine⟨_,rfl,rfl,_,rfl,bW (fun h=>?_) (fun h=>bK ⟨ls,J',i,⟨r,v,e,rfl,I6,hv,he⟩,nl,UB,Ww⟩)⟩;obtain⟨us,ss,UU,L9,U2,VR,Vm⟩:=id I6.x;have lus:=L9.length;refine⟨_,rfl,ls,rfl,⟨_,N0.of UU⟩,?_⟩;refine eu (K:=K) (a:=ls) (xs:=us) (fun j ys H'=>NV H6 H'/\ys.length<=j/\Paired (fun v g=>Ou H6 g v) ys ((ss.take j).filter Sd.isCell)) ⟨NV.refl _,J2 _,.nil⟩ (fun j ys H' hj⟨s',l',_⟩=>⟨N0.of (s' _ _ UU),zo⟩) ?_ ?_
    ·rintro j x ys H7 hx ⟨s7,l7,Wt⟩;obtain⟨g,hg,W0⟩:=gq L9 hx;have Md:=(JV.mp hx).1;obtain⟨pg,rg,rfl,hpg⟩:=W0.at;refine⟨trivial,?_⟩;refine⟨_,rfl,pg,_,_,_,rfl,rfl,NY.of (s7 _ _ hpg),bu,rfl,_,rfl,?_⟩;rw[zG];refine bW (fun h=>?_) (fun h=>?_)
     ·refine⟨_,rfl,Nx.mk Md ⟨s7,by rw[JU];simp;lia,?_⟩⟩;rw[KE,hg,LA];have:(some g).toList.filter Sd.isCell=[g]:=by simp[h]
      rw[this];exact gO (R:=fun v g=>Ou H6 g v) W0 Wt
     ·refine Nx.mk Md ⟨s7,zo,?_⟩;rw[KE,hg,LA];have:(some g).toList.filter Sd.isCell=[]:=by simp[h]
      rw[this,KB];exact Wt
    ·rintro ys H7 ⟨s7,l7,Wt⟩ lq Xm;rw[show us.length=ss.length by lia,Ky]at Wt;generalize zz:aI H7 lq _=H8;have s8:=(nw Xm zz).1;have e8:H8 lq=some (.lst ys):=(nw Xm zz).2;clear zz;refine⟨N5,fun le Vz=>?_⟩;generalize zz:aI H8 le _=H9;have⟨s9,e9⟩:=nw Vz zz;clear zz;have X6:=(s7.trans s8).trans s9;have I9:=I6.but UB (I6.g.same X6) (dW X6);have hv9:=hv.kt (ao X6);refine Cr (s9 _ _ e8) (uf (W:=W) (m:=k-1) (ps:=ps) (ms:=ms) (fs:=fs) (bF (R:=fun v g=>Ou H6 g v) (fun _ _ h'=>Ou.kt (ao X6) h') Wt) fun g hg=>Vm g (Lr.mp hg).1) e9 ⟨_,rfl,bW (fun h=>?_) (fun h=>?_)⟩
     ·have h0:ys.length=0:=k_ h;have:ss.filter Sd.isCell=[]:=List.eq_nil_of_length_eq_zero (by rw[<-Wt.length];exact h0);exact⟨ls,J',i,⟨r,v,e,rfl,I9,hv9,he⟩,nl,UB,Ww,us,ss,X6 _ _ UU,bF (R:=fun v g=>Ou H6 g v) (fun _ _ h'=>Ou.kt (ao X6) h') L9,U2,this,Vm⟩
     ·exact⟨ls,J',i,⟨r,v,e,rfl,I9,hv9,he⟩,nl,UB,Ww⟩
  ·rintro σ H4 ⟨v6,v7,v8,rfl,I4⟩;obtain⟨us,ss,UU,L9,U2,VR,Vm⟩:=I4.x;refine⟨_,rfl,ls,_,rfl,.inl ⟨N0.of UU,fun t nt=>?_⟩⟩;have s5:=ag (o:=.tup us) nt;exact q t us ss _ (I4.g.same s5) (I4.b.same s5) ae (bF (R:=fun v g=>Ou H4 g v) (fun _ _ h'=>Ou.kt (ao s5) h') L9) zo VR Vm
end
def ko(fs:TM):Ee->Prop
 |.w0 s=>s∈([SJ,SK,SN]:TH)
 |.fault z=>cm z
 |.go s j=>s∈([S5,Su]:TH)/\∃z:Str,fs[j]?=some (z,(S2:Str))
def Ct(ps ms:TH)(fs:TM):Tt->Prop
 |.top b n=>cw ps R9 fs b n
 |.pl b n=>cw ps R9 fs b n
 |.mk b n=>cw ms Sc fs b n
def eD(W:Nat)(ps ms:TH)(fs:TM)(m:Nat):Nat->Dd->Prop
 |_,.leaf s e=>s.length<=4/\(s.filter Sd.isCell).length<=1/\(∀g∈s,eU W ps ms fs m g)/\ko fs e
 |0,.ite _ _ _=>False
 |c+1,.ite t y n=>Ct ps ms fs t/\eD W ps ms fs m c y/\eD W ps ms fs m c n
inductive JR(p:Ts)(d:Ts)(lf:Ts)(fs:TM)(H:Hp)(r:Nat)(σ:St)(H':Hp):Prop
 |mk(lb:_):σ=[some (.ref p),some (.ref d),some (.ref lf),some (.ref lb),some (.int r)]->N6 H' p->Of p H H'->p≠lb->H' lb=some (.lst (gu (dw S2 fs fs.length)))->JR p d lf fs H r σ H'
inductive uh(vs:TQ)(H:Hp)(Q:VK)(Z3:XK):Prop
 |mk(p d lf W ps ms fs:_):vs=[.ref p,.ref d,.ref lf]->Lx H p d lf W ps ms fs->(∀v H' e,N6 H' p->Of p H H'->QP H' e v->ko fs e->Q v H')->uh vs H Q Z3
def G6(r:Nat):∃z:Str,qJ ([V.str S5,.str S5,.str Su]:TQ) ((r:Int)%3)=some (.str z)/\z∈([S5,Su]:TH):=by
 have e:(r:Int)%3=((r%3:Nat):Int):=by lia
 rw[e];have h3:r%3<3:=LK _ zd
 match r%3,h3 with
 |0,_=>exact⟨S5,aU (j:=0) rfl,zk⟩
 |1,_=>exact⟨S5,aU (j:=1) rfl,zk⟩
 |2,_=>exact⟨Su,aU (j:=2) rfl,zk⟩
def PJ:TH:=[("zq":Str),"deepest","barefoot","f"]
def xh(z:Str):cm z↔(z∉OS/\1<=z.length/\z.length<=8/\(z.cps.toList.all fun c=>decide (97<=c)&&decide (c<=122))=true)/\z∉([(Ta:Str),(Te:Str)]:TH):=by
 unfold cm N8;simp only[KC,KQ,t_]
def E9:∀z∈PJ,cm z:=by
 intro z hz;rw[xh];revert z;decide +kernel
section
def PQ:av [R6,R5,R7,SX,SU] [R6,R5,R7] (ak vk):=cV zk
def Cu(F:Ob K "_law_end" "_law_end" vk f fd)(B:Bl mg)(B3:EH mg)(G':Fn P w K mg base "_law_take" 1 [R6,Sq] eO):NZ P w K mg base bZ 2 f fd [R6,R5,R7] uh:=by
 have ZZ:=PQ
 walk_at "o"
 ·obtain⟨p,d,lf,W,ps,ms,fs,rfl,hL,q⟩:=h;have hu:=eY hr;walk_at "v"
  have h3:=hL.f3;refine⟨_,af (lJ (i:=3) PQ.nd rfl rfl (N':=["_law_j",Sn,Sv]) (ix:=[none,none,none]) (sc0:=ak vk) (N:=[R6,R5,R7,SX,SU]) rfl zk (kE rfl B3.enumerate (aa (pv 2) ac))
     (fun C' cl s H fp=>dh (K:=K) (n:=2) rfl rfl (aw (cG (i:=0) xg) (aw (dh (K:=K) (n:=2) rfl rfl (aw (cG (i:=1) xg) (aw (cG (i:=2) xg) bB))) bB))) (fun _ _ _ _ _=>iC (ap aW (pv 2) ai)) (fun C' cl s H fp=>pv 0))
   (bf (fun σ H'=>∃r:Nat,JR p d lf fs H r σ H') (bL (i:=4) PQ.nd (ar G' hr rfl (aa (pv 0) (aa ah ac))))
   (af (aQ (c9 (fun σ H'=>∃r:Nat,JR p d lf fs H r σ H'/\dw S2 fs fs.length≠[]) (fun σ H'=>∃r:Nat,JR p d lf fs H r σ H') (PW.pt (bY (ap (OK hr) (pv 3) (aT ac)) (bM (ap dY (pv 4) ah)))))
     (aj (aq (ay (aa (ax aP (aT (aa ai (aa ai (aa ai ac)))) (aA fh (pv 4) ah)) (aa (ax aP (pv 3) (ar G' hr rfl (aa (pv 0) (aa (aC aY (by rfl) B.len Kt (aa (pv 3) ac)) ac)))) ac))))) aB)
   (af (aQ (ap aW (pv 4) ah) (aj (aq (ay (aa ai ac)))) aB)
   (af (aQ (c9 (fun σ H'=>∃r:Nat,JR p d lf fs H r σ H') (fun σ H'=>∃r:Nat,JR p d lf fs H r σ H') (PW.pt (bY (ap aW (pv 4) ah) (bM (ap aW (ar G' hr rfl (aa (pv 0) (aa ah ac))) ah))))) (aj (aq (ay (aa ai ac)))) aB)
   (af (aQ (c9 (fun σ H'=>∃r:Nat,JR p d lf fs H r σ H') (fun σ H'=>∃r:Nat,JR p d lf fs H r σ H') (PW.pt (bY (ap aW (pv 4) ah) (bM (ap aW (ar G' hr rfl (aa (pv 0) (aa ah ac))) ah)))))
     (aj (aq (ay (aa ai (aa (ax aP (aA dL (aA dL (aT (aa ai (aa ai (aa ai (aa ai ac))))) (aZ hu (pv 1) ai)) (aZ hu (pv 1) ai)) (ar G' hr rfl (aa (pv 0) (aa ah ac)))) ac))))) aB)
   (aj (aq (ay (aa ai ac))))))))),?_⟩
  obtain⟨us,Wv,L9⟩:=id hL.f;have lu:=L9.length;refine⟨_,rfl,lf,rfl,⟨_,N0.of Wv⟩,?_⟩;refine kL (K:=K) (l:=lf) (xs:=us) (fun i ys H'=>NV H H'/\ys=gu (dw S2 fs i)) ⟨NV.refl _,rfl⟩ (fun i ys H' hi⟨s',e'⟩=>⟨N0.of (s' _ _ Wv),by rw[e',fO];have:=ie S2 fs i;lia⟩) ?_ ?_
  ·rintro i x ys H1 T1 hx nT ⟨s1,rfl⟩;obtain⟨z,hz,pf,rfl,U3⟩:=gq L9 hx;have s2:=ag (o:=.tup [.int (i:Int),.ref pf]) nT;have Mc:=s1.trans s2;have Md:=(JV.mp hx).1;refine⟨T1,_,rfl,NY.of ae,rfl,_,_,rfl,_,_,rfl,⟨pf,_,rfl,NY.of (Mc _ _ U3),rfl,_,_,rfl,_,_,rfl,rfl,rfl,trivial,?_⟩⟩;refine⟨_,rfl,rfl,_,rfl,bW (fun h=>?_) (fun h=>?_)⟩
   ·have h':z.2=S2:=V.str.inj (k_ h);refine⟨_,rfl,Nx.mk Md ⟨Mc,?_⟩⟩;rw[eJ hz,g_ h'];unfold gu;rw[Kb];rfl
   ·have h':¬z.2=S2:=fun e=>h (b_ (by rw[e]));refine Nx.mk Md ⟨Mc,?_⟩;rw[eJ hz,f_ h',KB]
  ·rintro ys H1 ⟨s1,rfl⟩ lb VA;rw[lu];have Y8:=ie S2 fs fs.length;generalize zz:aI H1 lb _=H2;have s2:=(nw VA zz).1;have e2:H2 lb=some (.lst (gu (dw S2 fs fs.length))):=(nw VA zz).2;clear zz;have T':p≠lb:=(hL.g.same s1).ne VA;have VF:=s1.trans s2;have w0:∀(z:Str)H5,z∈([SJ,SK,SN]:TH)->N6 H5 p->Of p H H5->1<=sizeLine/\∀t,H5 t=none->Q (.ref t) (aI H5 t (.tup [.str z])):=fun z H5 hz g5 b5=>⟨zd,fun t nt=>by
    have s6:=ag (o:=.tup [.str z]) nt;exact q _ _ (.w0 z) (g5.same s6) (b5.same s6) ⟨t,rfl,ae⟩ hz⟩
   refine⟨?_,?_⟩
   ·rintro σ H4 ⟨r,lb,rfl,g4,b4,T',e4⟩;refine⟨?_,?_,?_⟩
    ·rintro H5 ⟨r',⟨VQ,e,g5,b5,UG,e5⟩,Ma⟩;have er:(r:Int)=(r':Int):=by
      have:=e_ (fun l:List (Option V)=>l[4]?) e;simpa using this
     have er':r=r':=by lia
     subst er';cases e;have Uw:0<(dw S2 fs fs.length).length:=Ll.mpr Ma;obtain⟨z,hz1,hz2⟩:=G6 r;refine⟨N5,fun lg ng=>?_⟩;generalize zz:aI H5 lg _=H6;have⟨s6,e6⟩:=nw ng zz;clear zz;refine⟨_,rfl,_,_,rfl,rfl,(by show(0:Int)<3;decide),lg,_,_,_,rfl,rfl,N0.of e6,hz1,?_⟩;refine⟨_,rfl,_,rfl,_,rfl,lb,_,rfl,.inl (N0.of (s6 _ _ e5)),?_⟩;rw[fO];refine⟨p,(dw S2 fs fs.length).length,rfl,g5.same s6,Uw,zo,fun j H7 hj g7 b7=>?_⟩;obtain⟨zz,hzz⟩:=mB (KJ hj);refine⟨lb,_,_,_,rfl,rfl,N0.of (b7 _ _ (s6 _ _ e5) T'.symm),aU (pS hj),N5,fun t nt=>?_⟩;have s8:=ag (o:=.tup [.str z,.int ((dw S2 fs fs.length)[j]:Nat)]) nt;exact q _ _ (.go z (dw S2 fs fs.length)[j]) (g7.same s8) (((b5.same s6).trans b7).same s8) ⟨t,rfl,ae⟩ ⟨hz2,zz,hzz⟩
    ·rintro H5 ⟨r',VQ,e,g5,b5,UG,e5⟩;cases e;refine⟨_,rfl,rfl,_,rfl,bW (fun h=>w0 SK H5 zk g5 b5) (fun h=>?_)⟩;refine⟨?_,?_,?_⟩
     ·rintro H6 ⟨r',VQ,e,g6,b6,UG,e6⟩;exact w0 SN H6 zk g6 b6
     ·rintro H6 ⟨r',VQ,e,g6,b6,UG,e6⟩;cases e;refine⟨?_,?_,?_⟩
      ·rintro H7 ⟨r',VQ,e,g7,b7,UG,e7⟩;cases e;have L7:=hL.but g7 b7;obtain⟨kvs,lp,lm,a1,a2,a3,a4,a5,a6⟩:=L7.t;have p10:=L7.p10;have p1:=L7.p1;have m10:=L7.m10;refine⟨N5,fun l8 n8=>?_⟩;generalize zz:aI H7 l8 _=H8;have s8:=(nw n8 zz).1;have e8:H8 l8=some (.lst (al PJ)):=(nw n8 zz).2;clear zz;have W2:PJ.length=4:=rfl;refine⟨_,rfl,d,_,rfl,bj (s8 _ _ a1) a3,oa e8 (s8 _ _ a5) zo fun l9 H9 s9 n9 e9=>?_⟩;refine⟨_,rfl,d,_,rfl,bj ((s8.trans s9) _ _ a1) a4,oa e9 ((s8.trans s9) _ _ a6) (by rw[JU];lia) fun la Ha sa na ea=>?_⟩;have s7a:=(s8.trans s9).trans sa;have pla:p≠la:=(g7.same (s8.trans s9)).ne na;refine⟨_,rfl,p,5,rfl,g7.same s7a,zd,zd,fun j Hb hj gb bb=>?_⟩;have WY:j<(PJ++ps++ms).length:=by rw[JU,JU];lia
       have hmem:cm (PJ++ps++ms)[j]:=by
        have:=KJ WY;rcases Ko.mp this with h|h
        ·rcases Ko.mp h with h|h
         ·exact E9 _ h
         ·exact L7.pn _ h
        ·exact L7.mn _ h
       refine⟨la,_,_,_,rfl,rfl,N0.of (bb _ _ ea pla.symm),aU (v:=.str (PJ++ps++ms)[j]) (by unfold al;rw[Kl,J1 WY];rfl),N5,fun t nt=>?_⟩;have sc:=ag (o:=.tup [.str Sk,.str (PJ++ps++ms)[j]]) nt;exact q _ _ (.fault (PJ++ps++ms)[j]) (gb.same sc) (((b7.same s7a).trans bb).same sc) ⟨t,rfl,ae⟩ hmem
      ·rintro H7 ⟨r',VQ,e,g7,b7,UG,e7⟩;exact w0 SJ H7 zk g7 b7
      ·refine⟨_,rfl,rfl,_,rfl,bW (fun h=>?_) (fun h=>bK ⟨_,lb,rfl,g6,b6,T',e6⟩)⟩;refine⟨_,rfl,p,3,rfl,g6,zd,zd,fun j H7 hj g7 b7=>?_⟩;exact⟨rfl,_,rfl,bW (fun h=>⟨_,lb,rfl,g7,b6.trans b7,T',b7 _ _ e6 T'.symm⟩) (fun h=>⟨_,lb,rfl,g7,b6.trans b7,T',b7 _ _ e6 T'.symm⟩)⟩
     ·refine⟨_,rfl,rfl,_,rfl,bW (fun h=>?_) (fun h=>bK ⟨_,lb,rfl,g5,b5,T',e5⟩)⟩;refine⟨_,rfl,p,3,rfl,g5,zd,zd,fun j H7 hj g7 b7=>?_⟩;exact⟨rfl,_,rfl,bW (fun h=>⟨_,lb,rfl,g7,b5.trans b7,T',b7 _ _ e5 T'.symm⟩) (fun h=>⟨_,lb,rfl,g7,b5.trans b7,T',b7 _ _ e5 T'.symm⟩)⟩
    ·refine⟨_,rfl,N5,fun le Vz=>?_⟩;generalize zz:aI H4 le _=H6;have⟨s6,e6⟩:=nw Vz zz;clear zz;have hJ:JR p d lf fs H r [some (.ref p),some (.ref d),some (.ref lf),some (.ref lb),some (.int r)] H6:=⟨lb,rfl,g4.same s6,b4.same s6,T',s6 _ _ e4⟩;refine pU (s6 _ _ e4) e6 ⟨_,rfl,bW (fun h=>?_) (fun h=>bK ⟨r,hJ⟩)⟩;refine⟨_,rfl,_,_,rfl,rfl,_,rfl,bW (fun h'=>⟨r,hJ,?_⟩) (fun h'=>⟨r,hJ⟩)⟩;intro e;rw[e]at h;simp at h
   ·refine⟨_,rfl,p,10,rfl,hL.g.same VF,zd,zd,fun r H4 LV g4 b4=>?_⟩;exact⟨r,lb,rfl,g4,(dW VF).trans b4,T',b4 _ _ e2 T'.symm⟩
end
inductive rV(mm:Nat)(c:Nat)(vs:TQ)(H:Hp)(Q:VK):Prop
 |mk(p d lf W ps ms fs:_)(c' k:Nat):vs=[.ref p,.ref d,.ref lf,.int c',.int k]->Lx H p d lf W ps ms fs->2<=k->k<=mm->c'<=c->(∀v H' dd,N6 H' p->Of p H H'->Pp H' dd v->eD W ps ms fs (k-1) c' dd->Q v H')->rV mm c vs H Q
def kO(mm:Nat):Nat->Sp
 |0=>nj
 |c+1=>fun vs H Q _=>rV mm c vs H Q
def Fb(r:Nat):∃t:Bool,qJ ([V.str R9,.str S3]:TQ) ((r:Int)%2)=some (.str (if t then S3 else R9)):=by
 have e:(r:Int)%2=((r%2:Nat):Int):=by lia
 rw[e];have h3:r%2<2:=LK _ zd
 match r%2,h3 with
 |0,_=>exact⟨false,aU (j:=0) rfl⟩
 |1,_=>exact⟨true,aU (j:=1) rfl⟩
section
def OU:av [R6,R5,R7,SF,Sr,SU,"_law_test","_law_yes"] [R6,R5,R7,SF,Sr] (ak sY):=cV zk
inductive JD(p:Ts)(d:Ts)(lf:Ts)(ps:TH)(ms:TH)(fs:TM)(H:Hp)(c:Nat)(k:Nat)(σ:St)(H':Hp):Prop
 |mk(r:Nat)(t:Tt)(vt:V):σ=[some (.ref p),some (.ref d),some (.ref lf),some (.int c),some (.int k),some (.int r),some vt,none]->N6 H' p->Of p H H'->QQ H' t vt->Ct ps ms fs t->JD p d lf ps ms fs H c k σ H'
def jr(F:Ob K "_law_deed" "_law_deed" sY f fd)(G':Fn P w K mg base "_law_take" 1 [R6,Sq] eO)(SL:Fn P w K mg base "_law_sel" 2 [R6,Sv,R5,R7] mD)(ST:Fn P w K mg base "_law_sets" n [R6,R5,R7,Sr] (pX mm))(EN:Fn P w K mg base "_law_end" 2 [R6,R5,R7] uh)(DE:Fn P w K mg base "_law_deed" n [R6,R5,R7,SF,Sr] (kO mm c))(hn:2<=n):NZ P w K mg base bZ (n+1) f fd [R6,R5,R7,SF,Sr] (kO mm (c+1)):=by
 have ZZ:=OU
 walk_at "o"
 ·obtain⟨p,d,lf,W,ps,ms,fs,c',k,rfl,hL,Wn,Vo,hc,q⟩:=h;have hu:=eY hr;have LU:N1 1 _:=hr.mono zo;have LV:N1 2 _:=hr.mono zo;refine⟨_,af (aQ (c9 (fun _ H'=>N6 H' p/\Of p H H'/\1<=c') (fun _ H'=>N6 H' p/\Of p H H') (PW.pt (bY (ap nC (pv 3) ah) (bM (ap aW (ar G' LU rfl (aa (pv 0) (aa ah ac))) ah)))))
    (af (bL (i:=5) OU.nd (ar G' LU rfl (aa (pv 0) (aa ah ac))))
    (bf (JD p d lf ps ms fs H c' k) (bL (i:=6) OU.nd (ay (aa (ax aP (aT (aa ai (aa ai ac))) (aA fh (pv 5) ah)) (aa (ar SL LV rfl (aa (pv 0) (aa ai (aa (pv 1) (aa (pv 2) ac))))) ac))))
    (bf (JD p d lf ps ms fs H c' k) (aQ (c9 (fun σ H'=>JD p d lf ps ms fs H c' k σ H'/\ms≠[]) (JD p d lf ps ms fs H c' k) (PW.pt (bY (ap aW (pv 5) ah) (bM (ap (OK hr) (aZ hu (pv 1) ai) (aT ac)))))) (aj (bL (i:=6) OU.nd (ay (aa ai (aa (ar SL LV rfl (aa (pv 0) (aa ai (aa (pv 1) (aa (pv 2) ac))))) ac))))) aB)
    (af (bL (i:=7) OU.nd (ar DE hr rfl (aa (pv 0) (aa (pv 1) (aa (pv 2) (aa (aA fY (pv 3) ah) (aa (pv 4) ac)))))))
    (aj (aq (ay (aa ai (aa (pv 6) (aa (pv 7) (aa (ar DE hr rfl (aa (pv 0) (aa (pv 1) (aa (pv 2) (aa (aA fY (pv 3) ah) (aa (pv 4) ac)))))) ac))))))))))) aB)
   (aj (aq (ay (aa ai (aa (ar ST hr rfl (aa (pv 0) (aa (pv 1) (aa (pv 2) (aa (pv 4) ac))))) (aa (ar EN LV rfl (aa (pv 0) (aa (pv 1) (aa (pv 2) ac)))) ac)))))),?_⟩
  refine⟨?_,?_,?_⟩
  ·rintro H1 ⟨g1,b1,Xw⟩;obtain⟨c0,rfl⟩:∃c0,c'=c0+1:=⟨c'-1,zo⟩;have ec:((c0+1:Nat):Int)-1=((c0:Nat):Int):=by lia
   cases c with
   |zero=>lia
   |succ c=>
    refine⟨_,rfl,p,3,rfl,g1,zd,zd,fun r H2 Uu g2 b2=>?_⟩;have WD:=b1.trans b2;refine⟨?_,?_⟩
    ·rintro σ H3 ⟨r,t,vt,rfl,g3,b3,ht,Xp⟩;refine⟨?_,?_⟩
     ·rintro σ H4 ⟨r,t,vt,rfl,g4,b4,ht4,WJ⟩;have L4:=hL.but g4 b4;refine⟨_,rfl,_,rfl,_,rfl,_,rfl,_,_,rfl,rfl,_,rfl,?_⟩;refine⟨p,d,lf,W,ps,ms,fs,c0,k,e_ (fun x=>[V.ref p,V.ref d,V.ref lf,V.int x,V.int k]) ec,L4,Wn,Vo,zo,fun vy H5 dy g5 b5 hy hyo=>?_⟩;have L5:=L4.but g5 b5;refine⟨_,rfl,_,rfl,_,rfl,_,rfl,_,rfl,_,rfl,_,_,rfl,rfl,_,rfl,?_⟩;refine⟨p,d,lf,W,ps,ms,fs,c0,k,e_ (fun x=>[V.ref p,V.ref d,V.ref lf,V.int x,V.int k]) ec,L5,Wn,Vo,zo,fun vn H6 dn g6 b6 hn6 VJ=>⟨N5,fun tt nt=>?_⟩⟩;have s7:=ag (o:=.tup [.str Tn,vt,vy,vn]) nt;have YQ:N9 H4 H6:=dX g4 (b5.trans b6);refine q _ _ (.ite t dy dn) (g6.same s7) (((b4.trans b5).trans b6).same s7) ⟨tt,vt,vy,vn,rfl,ae,(ht4.kt YQ).kt (ao s7),(hy.kt (dX g5 b6)).kt (ao s7),hn6.kt (ao s7)⟩ ?_;simp only[eD];exact⟨WJ,hyo,VJ⟩
     ·refine⟨?_,?_,?_⟩
      ·rintro H4 ⟨⟨r',t',vt',e,g4,b4,ht4,WJ⟩,Ma⟩;cases e;have L4:=hL.but g4 b4;have Yj:1<=ms.length:=Ll.mpr Ma;refine⟨_,rfl,_,rfl,_,rfl,p,Sc,d,lf,W,ps,ms,fs,rfl,L4.g,L4.t,L4.f,L4.f3,.inr rfl,by rw[di];exact Yj,by rw[di];exact L4.m10,fun va Ha bb nn ga ba Wk hs=>⟨N5,fun tt nt=>?_⟩⟩;rw[di]at hs;have s5:=ag (o:=.tup [.str Sc,va]) nt;exact⟨r,.mk bb nn,.ref tt,rfl,ga.same s5,(b4.trans ba).same s5,⟨tt,va,rfl,ae,Wk.kt (ao s5)⟩,hs⟩
      ·rintro H4 ⟨r',t',vt',e,g4,b4,ht4,WJ⟩;cases e;exact⟨r,t',vt,rfl,g4,b4,ht4,WJ⟩
      ·refine⟨_,rfl,rfl,_,rfl,bW (fun h=>?_) (fun h=>bK ⟨r,t,vt,rfl,g3,b3,ht,Xp⟩)⟩;have WF:=hL.but g3 b3;obtain⟨kvs,lp,lm,a1,a2,a3,a4,a5,a6⟩:=WF.t;refine⟨_,rfl,d,_,rfl,bj a1 a4,N5,fun le Vz=>?_⟩;generalize zz:aI H3 le _=H8;have⟨s8,e8⟩:=nw Vz zz;clear zz;have hJ:JD p d lf ps ms fs H (c0+1) k [some (.ref p),some (.ref d),some (.ref lf),some (.int (c0+1:Nat)),some (.int k),some (.int r),some vt,none] H8:=⟨r,t,vt,rfl,g3.same s8,b3.same s8,ht.kt (ao s8),Xp⟩;refine pV (fun z hz=>(WF.mn z hz).1) (s8 _ _ a6) e8 ⟨_,rfl,bW (fun h=>⟨hJ,?_⟩) (fun h=>hJ)⟩;intro em;rw[em]at h;simp at h
    ·refine⟨N5,fun lg ng=>?_⟩;generalize zz:aI H2 lg _=H3;have⟨s3,e3⟩:=nw ng zz;clear zz;obtain⟨tb,htb⟩:=Fb r;refine⟨_,rfl,_,_,rfl,rfl,(by show(0:Int)<2;decide),lg,_,_,_,rfl,rfl,N0.of e3,htb,?_⟩;have WF:=hL.but (g2.same s3) (WD.same s3);refine⟨_,rfl,_,rfl,_,rfl,p,R9,d,lf,W,ps,ms,fs,rfl,WF.g,WF.t,WF.f,WF.f3,.inl rfl,by rw[cQ];exact WF.p1,by rw[cQ];exact WF.p10,fun va Ha bb nn ga ba Wk hs=>⟨N5,fun tt nt=>?_⟩⟩;rw[cQ]at hs;cases tb with
     |true=>
      have s5:=ag (o:=.tup [.str S3,va]) nt;exact⟨r,.top bb nn,.ref tt,rfl,ga.same s5,((WD.same s3).trans ba).same s5,⟨tt,va,rfl,ae,Wk.kt (ao s5)⟩,hs⟩
     |false=>
      have s5:=ag (o:=.tup [.str R9,va]) nt;exact⟨r,.pl bb nn,.ref tt,rfl,ga.same s5,((WD.same s3).trans ba).same s5,⟨tt,va,rfl,ae,Wk.kt (ao s5)⟩,hs⟩
  ·rintro H1 ⟨g1,b1⟩;have L1:=hL.but g1 b1;refine⟨_,rfl,_,rfl,_,rfl,_,rfl,p,d,lf,W,ps,ms,fs,k,rfl,L1,Wn,Vo,fun ts us ss H2 g2 b2 e2 VT h4 W4 Vm=>?_⟩;have L2':=L1.but g2 b2;refine⟨_,rfl,_,rfl,_,rfl,p,d,lf,W,ps,ms,fs,rfl,L2',fun ve H3 e g3 b3 hv3 he3=>⟨N5,fun tt nt=>?_⟩⟩;have s4:=ag (o:=.tup [.str "leaf",.ref ts,ve]) nt;have k23:N9 H2 H3:=dX g2 b3;refine q _ _ (.leaf ss e) (g3.same s4) (((b1.trans b2).trans b3).same s4) ⟨tt,ts,us,ve,rfl,ae,s4 _ _ (k23 _ _ e2),bF (R:=fun v g=>Ou H2 g v) (fun _ _ h'=>Ou.kt (ao s4) (Ou.kt k23 h')) VT,hv3.kt (ao s4)⟩ ?_;cases c'<;>exact⟨h4,W4,Vm,he3⟩
  ·refine⟨_,rfl,_,_,rfl,rfl,_,rfl,bW (fun h=>?_) (fun h=>bK ⟨hL.g,Of.refl _ _⟩)⟩;have Xw:1<=c':=by
    have:=k_ h;lia
   refine⟨_,rfl,p,3,rfl,hL.g,zd,zd,fun r H4 Uu g4 b4=>?_⟩;exact⟨rfl,_,rfl,bW (fun h=>⟨g4,b4,Xw⟩) (fun h=>⟨g4,b4⟩)⟩
end
def zK(fs:TM)(j:Nat):Str:=(fs.getD j ("","")).1
def eX(L:TH)(fs:TM)(b:Bool)(n:Nat):Str:=if b=true then zK fs n else L.getD n ""
def dj(ps ms:TH)(fs:TM):Ed->Ex
 |.num n=>.num n
 |.fld j=>.nm (zK fs j)
 |.pl b n=>.nm (eX ps fs b n)
 |.mk b n=>.nm (eX ms fs b n)
 |.cell e=>.cell (dj ps ms fs e)
 |.two o x y=>.two o (dj ps ms fs x) (dj ps ms fs y)
def dk(ps ms:TH)(fs:TM):Sd->Gs
 |.cell a e=>.cell (dj ps ms fs a) (dj ps ms fs e)
 |.pl b n e=>.nm (eX ps fs b n) (dj ps ms fs e)
 |.mk b n e=>.nm (eX ms fs b n) (dj ps ms fs e)
def gz(fs:TM):Ee->En
 |.w0 s=>.w0 s
 |.fault z=>.w1 Sk z
 |.go s j=>.w1 s (zK fs j)
def qy(ps ms:TH)(fs:TM):Tt->Str
 |.top b n=>eX ps fs b n
 |.pl b n=>eX ps fs b n
 |.mk b n=>eX ms fs b n
def ui:Tt->Bool
 |.top _ _=>true
 |_=>false
def js(ps ms:TH)(fs:TM):Dd->Bd
 |.leaf s e=>.leaf (s.map (dk ps ms fs)) (gz fs e)
 |.ite t y n=>.ite (ui t) (qy ps ms fs t) (js ps ms fs y) (js ps ms fs n)
def gV:Option Nat->V
 |none=>.non
 |some g=>.int (g:Nat)
def gL(ms:TH):Option Nat->TH
 |none=>[]
 |some g=>[ms.getD g ""]
inductive Qt(lk:Ts)(H:Hp)(u:V)(x:Kn):Prop
 |mk(t lf b:_):u=.ref t->lf≠lk->H t=some (.tup [.str x.name,.ref lf,b])->Qg H lf x.fs->Pp H x.dd b->Qt lk H u x
structure KL(W:Nat)(ps ms fn:TH)(c k:Nat)(x:Kn):Prop where
 fn:∃j,j<=3/\x.fs.map (·.1)=fn.take j
 st:∀f∈x.fs,f.2∈dq
 dd:eD W ps ms x.fs (k-1) c x.dd
 bd:x.bd=js ps ms x.fs x.dd
def pY(n c k:Nat):Prop:=(1<=n/\n<=8/\c=0/\k=2)\/(n=1/\c=3/\k=2)\/(1<=n/\n<=5/\c=0/\k=4)\/(1<=n/\n<=3/\c=1/\2<=k/\k<=3)
structure iU(D:Fm)(fn:TH)(gt:Option Nat):Prop where
 w4:4<=D.width
 w24:D.width<=24
 c4:4<=D.cells
 c64:D.cells<=64
 d8:D.depth<=8
 p1:1<=D.places.length
 p4:D.places.length<=4
 m3:D.marks.length<=3
 fl:fn.length=3
 nd:(D.places++D.marks++fn).Nodup
 nf:∀z∈D.places++D.marks++fn,cm z
 kn:(D.kinds.map Kn.name).Nodup
 kf:∀x∈D.kinds,cm x.name
 ga:D.gates=gL D.marks gt
 gb:∀g,gt=some g->g<D.marks.length
 kl:∃c k,pY D.kinds.length c k/\∀x∈D.kinds,KL D.width D.places D.marks fn c k x
structure PL(H:Hp)(d:Ts)(D:Fm)(gt:Option Nat)(kvs:List (dv×V))(lp lm lk:Ts)(us:TQ):Prop where
 ed:H d=some (.dK kvs)
 v1:bx kvs (kS R_)=some (.int D.width)
 v2:bx kvs (kS Se)=some (.int D.cells)
 v3:bx kvs (kS Sh)=some (.int D.depth)
 v4:bx kvs (kS Sa)=some (.ref lp)
 v5:bx kvs (kS Sg)=some (.ref lm)
 v6:bx kvs (kS Sx)=some (gV gt)
 v7:bx kvs (kS SC)=some (.ref lk)
 ep:H lp=some (.lst (al D.places))
 em:H lm=some (.lst (al D.marks))
 ek:H lk=some (.lst us)
 ks:Paired (Qt lk H) us D.kinds
inductive mF(vs:TQ)(H:Hp)(Q:VK)(Z3:XK):Prop
 |mk(p:Ts)(most:Nat):vs=[.ref p,.int most]->N6 H p->1<=most->most<=3->(∀d H' D gt kvs lp lm lk us fn,N6 H' p->Of p H H'->PL H' d D gt kvs lp lm lk us->iU D fn gt->Q (.ref d) H')->mF vs H Q Z3
structure TN(H:Hp)(p d LY ln:Ts)(A b:Nat)(zs:TH)(kv:List (dv×V))(H':Hp):Prop where
 g:N6 H' p
 bb:Of p H H'
 nd:H d=none
 pd:p≠d
 ed:H' d=some (.dK kv)
 emn:H' LY=some (.lst [.int (A:Nat),.int (b:Nat)])
 eln:H' ln=some (.lst (al zs))
def TN.but(h:TN H p d LY ln A b zs kv H1)(g:N6 H2 p)(b':Of p H1 H2):TN H p d LY ln A b zs kv H2:=
 ⟨g,h.bb.trans b',h.nd,h.pd,b' _ _ h.ed h.pd.symm,b' _ _ h.emn (bv h.g h.emn fun x y z e=>by have:=e_ List.length (HO.lst.inj e);simp[o9]at this),b' _ _ h.eln (bv h.g h.eln (cE _))⟩
def TN.same(h:TN H p d LY ln A b zs kv H1)(s:NV H1 H2):TN H p d LY ln A b zs kv H2:=h.but (h.g.same s) (dW s)
section
variable{x d:Ts}{H:Hp}
def uj{l:TQ}{k:List (dv×V)}(h:H x=some (.lst l))(h':H d=some (.dK k)):x≠d:=by
 rintro rfl;rw[h]at h';cases h'
variable{kv:List (dv×V)}{zs:TH}{A b:Nat}{p LY ln:Ts}{H1:Hp}
def TN.put(h:TN H p d LY ln A b zs kv H1)(kv':List (dv×V)):TN H p d LY ln A b zs kv' (aI H1 d (.dK kv')):=by
 have hk:∀x l,H1 x=some (.lst l)->(aI H1 d (.dK kv')) x=some (.lst l):=fun x l e=>by rw[am (uj e h.ed)];exact e
 refine⟨?_,?_,h.nd,h.pd,ae,hk _ _ h.emn,hk _ _ h.eln⟩
 ·obtain⟨x,y,z,e⟩:=h.g;exact⟨x,y,z,hk _ _ e⟩
 ·intro c o e n;rw[am (az e h.nd)];exact h.bb c o e n
def eE{l:TQ}{k kv':List (dv×V)}(h:H1 x=some (.lst l))(h':H1 d=some (.dK k)):(aI H1 d (.dK kv')) x=some (.lst l):=by rw[am (uj h h')];exact h
def JJ(va vb vc:V):∃kv,gh [] [(kS R_,va),(kS Se,vb),(kS Sh,vc)]=kv/\kv.length<=3/\bx kv (kS R_)=some va/\bx kv (kS Se)=some vb/\bx kv (kS Sh)=some vc:=by
 refine⟨_,rfl,fk _ _,?_,?_,?_⟩
 ·show bx (bC (bC (bC [] (kS R_) va) (kS Se) vb) (kS Sh) vc) _=_;rw[ck zk,ck zk,iP]
 ·show bx (bC (bC (bC [] (kS R_) va) (kS Se) vb) (kS Sh) vc) _=_;rw[ck zk,iP]
 ·show bx (bC (bC (bC [] (kS R_) va) (kS Se) vb) (kS Sh) vc) _=_;rw[iP]
structure TL(H:Hp)(p d LY ln lp lm lk:Ts)(A b W cl dp:Nat)(zs:TH)(kv:List (dv×V))(gt:Option Nat)(H':Hp):Prop where
 tn:TN H p d LY ln A b zs kv H'
 v1:bx kv (kS R_)=some (.int (W:Nat))
 v2:bx kv (kS Se)=some (.int (cl:Nat))
 v3:bx kv (kS Sh)=some (.int (dp:Nat))
 v4:bx kv (kS Sa)=some (.ref lp)
 v5:bx kv (kS Sg)=some (.ref lm)
 v6:bx kv (kS Sx)=some (gV gt)
 v7:bx kv (kS SC)=some (.ref lk)
 ep:H' lp=some (.lst (al (zs.take A)))
 em:H' lm=some (.lst (al ((zs.drop A).take b)))
 k1:LY≠lk
 k2:ln≠lk
 k3:lp≠lk
 k4:lm≠lk
 nk:H lk=none
 pk:p≠lk
def TL.but(h:TL H p d LY ln lp lm lk A b W cl dp zs kv gt H1)(g:N6 H2 p)(b':Of p H1 H2):TL H p d LY ln lp lm lk A b W cl dp zs kv gt H2:=
 ⟨h.tn.but g b',h.v1,h.v2,h.v3,h.v4,h.v5,h.v6,h.v7,b' _ _ h.ep (bv h.tn.g h.ep (cE _)),b' _ _ h.em (bv h.tn.g h.em (cE _)),h.k1,h.k2,h.k3,h.k4,h.nk,h.pk⟩
def TL.same(h:TL H p d LY ln lp lm lk A b W cl dp zs kv gt H1)(s:NV H1 H2):TL H p d LY ln lp lm lk A b W cl dp zs kv gt H2:=h.but (h.tn.g.same s) (dW s)
def TL.app{p d LY ln lp lm lk:Ts}{A b W cl dp:Nat}{gt:Option Nat}(h:TL H p d LY ln lp lm lk A b W cl dp zs kv gt H1){us:TQ}(e:H1 lk=some (.lst us))(UP:TQ):TL H p d LY ln lp lm lk A b W cl dp zs kv gt (aI H1 lk (.lst UP)):=by
 refine⟨⟨?_,?_,h.tn.nd,h.tn.pd,?_,?_,?_⟩,h.v1,h.v2,h.v3,h.v4,h.v5,h.v6,h.v7,?_,?_,h.k1,h.k2,h.k3,h.k4,h.nk,h.pk⟩
 ·obtain⟨x,y,z,ex⟩:=h.tn.g;exact⟨x,y,z,by rw[am h.pk];exact ex⟩
 ·intro c o ec nc;rw[am (az ec h.nk)];exact h.tn.bb c o ec nc
 ·rw[am (uj e h.tn.ed).symm];exact h.tn.ed
 ·rw[am h.k1];exact h.tn.emn
 ·rw[am h.k2];exact h.tn.eln
 ·rw[am h.k3];exact h.ep
 ·rw[am h.k4];exact h.em
def Qt.kp(k:N9 H H')(kl:∀x us,x≠lk->∀fs:TM,H x=some (.lst us)->Paired (Oh H) us fs->H' x=some (.lst us)){x:Kn}(h:Qt lk H u x):Qt lk H' u x:=by
 obtain⟨t,lf,b,rfl,hn,ht,⟨us,e,hp⟩,hd⟩:=h;exact⟨t,lf,b,rfl,hn,k _ _ ht,⟨us,kl _ _ hn _ e hp,bF (fun _ _ h=>Oh.kt2 k h) hp⟩,hd.kt k⟩
def Fc(LX c k:Nat):Prop:=(LX=0/\c=0/\k=2)\/(LX=1/\c=3/\k=2)\/(LX=2/\c=0/\k=4)\/(LX=3/\c=1/\2<=k/\k<=3)
def G7(h:LX<4):([V.int 0,.int 3,.int 0,.int 1]:TQ)[LX]?=some (.int (([0,3,0,1]:TJ).getD LX 0:Nat)):=by
 match LX,h with
 |0,_=>rfl
 |1,_=>rfl
 |2,_=>rfl
 |3,_=>rfl
def G8(r:Nat)(h:LX<4):([V.int 2,.int 2,.int 4,.int (2+(r:Int))]:TQ)[LX]?=some (.int (([2,2,4,2+r]:TJ).getD LX 0:Nat)):=by
 match LX,h with
 |0,_=>rfl
 |1,_=>rfl
 |2,_=>rfl
 |3,_=>rfl
def G9(r:Nat)(h:LX<4):([V.int 8,.int 1,.int 5,.int (1+(r:Int))]:TQ)[LX]?=some (.int (([8,1,5,1+r]:TJ).getD LX 0:Nat)):=by
 match LX,h with
 |0,_=>rfl
 |1,_=>rfl
 |2,_=>rfl
 |3,_=>rfl
def Hd(h:LX<4)(hr:r<2):Fc LX (([0,3,0,1]:TJ).getD LX 0) (([2,2,4,2+r]:TJ).getD LX 0):=by
 match LX,h with
 |0,_=>exact .inl ⟨rfl,rfl,rfl⟩
 |1,_=>exact .inr (.inl ⟨rfl,rfl,rfl⟩)
 |2,_=>exact .inr (.inr (.inl ⟨rfl,rfl,rfl⟩))
 |3,_=>exact .inr (.inr (.inr ⟨rfl,rfl,by show 2<=2+r;lia,by show 2+r<=3;lia⟩))
def Hf(h:LX<4)(hc:Fc LX c k)(hr:r<most)(hm:most<=3):pY (([8,1,5,1+r]:TJ).getD LX 0) c k:=by
 unfold pY;rcases hc with⟨rfl,rfl,rfl⟩|⟨rfl,rfl,rfl⟩|⟨rfl,rfl,rfl⟩|⟨rfl,rfl,h1,h2⟩
 ·exact .inl ⟨by show 1<=8;decide,by show 8<=8;decide,rfl,rfl⟩
 ·exact .inr (.inl ⟨rfl,rfl,rfl⟩)
 ·exact .inr (.inr (.inl ⟨by show 1<=5;decide,by show 5<=5;decide,rfl,rfl⟩))
 ·exact .inr (.inr (.inr ⟨by show 1<=1+r;lia,by show 1+r<=3;lia,rfl,h1,h2⟩))
def xi(zs:TH)(n:Nat):(al zs).drop n=al (zs.drop n):=by unfold al;rw[List.map_drop]
def QY:TH:=[R9,"number",S2,Sc]
def Cv(h:i<4):([V.str R9,.str "number",.str S2,.str Sc]:TQ)[i]?=some (.str (QY.getD i ""))/\QY.getD i ""∈dq:=by
 match i,h with
 |0,_=>exact⟨rfl,zk⟩
 |1,_=>exact⟨rfl,zk⟩
 |2,_=>exact⟨rfl,zk⟩
 |3,_=>exact⟨rfl,zk⟩
def xj(b:Nat):Nat:=3+if 0<b then 1 else 0
def Cw(b:Nat):(3+(if decide ((b:Int)>0)=true then 1 else 0):Int)=(xj b:Nat):=by
 unfold xj;by_cases h:0<b
 ·rw[g_ (b_ zo),g_ h];rfl
 ·rw[f_ (by simp;lia),f_ h];rfl
def Cy(b:Nat):3<=xj b/\xj b<=4:=by unfold xj;split<;>lia
def ki(h:pY n c k):1<=n/\n<=8/\c<=3/\2<=k/\k<=4:=by unfold pY at h;lia
def Fd(zs:TH)(A b:Nat):zs.take A++(zs.drop A).take b++zs.drop (A+b)=zs:=by
 rw[KH,<-List.drop_drop,KZ,KZ]
def zL(g:N6 H p)(b:Of p H H'):∀x us,x≠lk->∀fs:TM,H x=some (.lst us)->Paired (Oh H) us fs->H' x=some (.lst us):=fun x us _ fs e hp=>b _ _ e (bv g e (rR hp))
def Hg{A b j:Nat}(h:A+b+j<zs.length):qJ (al zs) ((A:Int)+(b:Int)+(j:Int))=some (.str zs[A+b+j]):=by
 have e:(A:Int)+(b:Int)+(j:Int)=((A+b+j:Nat):Int):=by lia
 rw[e];exact aU (by unfold al;rw[Kl,J1 h];rfl)
section
def Ot:av [R6,"_law_most","_law_mode",R5,Sq,Sl,SF,Sr,Sn,R7,SZ,Sv] [R6,"_law_most"] (ak o7):=cV zk
inductive JT(H:Hp)(p:Ts)(most:Nat)(σ:St)(H':Hp)(d LY ln:Ts)(A b LX:Nat)(zs:TH)(kv:List (dv×V))(W cl dp:Nat)(v6 v7:Option V):Prop
 |mk:σ=[some (.ref p),some (.int most),some (.int (LX:Nat)),some (.ref d),some (.ref LY),some (.ref ln),v6,v7,none,none,none,none]->TN H p d LY ln A b zs kv H'->LX<4->1<=A->A<=4->b<=3->zs.length=A+b+3->zs.Nodup->(∀z∈zs,cm z)->4<=W->W<=24->4<=cl->cl<=64->dp<=8->kv.length<=7->bx kv (kS R_)=some (.int (W:Nat))->bx kv (kS Se)=some (.int (cl:Nat))->bx kv (kS Sh)=some (.int (dp:Nat))->JT H p most σ H' d LY ln A b LX zs kv W cl dp v6 v7
inductive zM(p:Ts)(most:Nat)(H:Hp)(σ:St)(H':Hp):Prop
 |mk(LX:Nat):σ=[some (.ref p),some (.int most),some (.int (LX:Nat)),none,none,none,none,none,none,none,none,none]->LX<4->N6 H' p->Of p H H'->zM p most H σ H'
inductive zN(p:Ts)(most:Nat)(H:Hp)(σ:St)(H':Hp):Prop
 |mk(LX:Nat)(d LY:Ts)(A b:Nat)(kv:List (dv×V))(W cl dp:Nat):σ=[some (.ref p),some (.int most),some (.int (LX:Nat)),some (.ref d),some (.ref LY),none,none,none,none,none,none,none]->LX<4->N6 H' p->Of p H H'->H d=none->p≠d->H' d=some (.dK kv)->H' LY=some (.lst [.int (A:Nat),.int (b:Nat)])->p≠LY->1<=A->A<=4->b<=3->kv.length<=3->4<=W->W<=24->4<=cl->cl<=64->dp<=8->bx kv (kS R_)=some (.int (W:Nat))->bx kv (kS Se)=some (.int (cl:Nat))->bx kv (kS Sh)=some (.int (dp:Nat))->zN p most H σ H'
inductive uk(H:Hp)(p:Ts)(most:Nat)(σ:St)(H':Hp):Prop
 |mk(d LY ln A b LX zs kv W cl dp lp lm gt:_):JT H p most σ H' d LY ln A b LX zs kv W cl dp none none->kv.length<=6->bx kv (kS Sa)=some (.ref lp)->bx kv (kS Sg)=some (.ref lm)->bx kv (kS Sx)=some (gV gt)->H' lp=some (.lst (al (zs.take A)))->H' lm=some (.lst (al ((zs.drop A).take b)))->(∀g,gt=some g->g<b)->uk H p most σ H'
inductive zO(p:Ts)(most:Nat)(H:Hp)(σ:St)(H':Hp):Prop
 |mk(d LY ln A b LX zs kv W cl dp lp lm lk gt c k:_):σ=[some (.ref p),some (.int most),some (.int (LX:Nat)),some (.ref d),some (.ref LY),some (.ref ln),some (.int (c:Nat)),some (.int (k:Nat)),none,none,none,none]->TL H p d LY ln lp lm lk A b W cl dp zs kv gt H'->H' lk=some (.lst [])->LX<4->Fc LX c k->1<=A->A<=4->b<=3->zs.length=A+b+3->zs.Nodup->(∀z∈zs,cm z)->4<=W->W<=24->4<=cl->cl<=64->dp<=8->(∀g,gt=some g->g<b)->zO p most H σ H'
def Cz{f:Ts}{fd:TB}{n:Nat}(F:Ob K "_law_table" "_law_table" o7 f fd)(B:Bl mg)(G':Fn P w K mg base "_law_take" 1 [R6,Sq] eO)(LN:Fn P w K mg base "_law_names" 2 [R6,Sq] mz)(DE:Fn P w K mg base "_law_deed" n [R6,R5,R7,SF,Sr] (kO 4 4))(hn:2<=n):NZ P w K mg base bZ (n+1) f fd [R6,"_law_most"] mF:=by
 have ZZ:=Ot
 walk_at "o"
 ·obtain⟨p,most,rfl,hp,Yj,Y1,q⟩:=h;walk_at "v"
  have hu:=eY hr;have LU:N1 1 _:=hr.mono zo;have LV:N1 2 _:=hr.mono zo;refine⟨_,bf (zM p most H) (bL (i:=2) Ot.nd (aC (nF rfl) (by rfl) B.min PyProof.Rows.boot_min (aa ah (aa (ar G' LU rfl (aa (pv 0) (aa ah ac))) ac))))
   (af (bL (i:=3) Ot.nd (vf (ja ai (aA bV ah (ar G' LU rfl (aa (pv 0) (aa ah ac)))) (ja ai (aA bV ah (ar G' LU rfl (aa (pv 0) (aa ah ac)))) (ja ai (ar G' LU rfl (aa (pv 0) (aa ah ac))) u9))) rfl rfl (by intro z;cases z) (by show 3<=15;decide)))
   (bf (zN p most H) (bL (i:=4) Ot.nd (aT (aa (aA bV ah (ar G' LU rfl (aa (pv 0) (aa ah ac)))) (aa (ar G' LU rfl (aa (pv 0) (aa ah ac))) ac))))
   (bf (fun σ H'=>∃d LY ln A b LX zs kv W cl dp,JT H p most σ H' d LY ln A b LX zs kv W cl dp none none/\kv.length<=3) (bL (i:=5) Ot.nd (ar LN LV rfl (aa (pv 0) (aa (aA bV (aA bV (ax aP (pv 4) ah) (ax aP (pv 4) ah)) ah) ac))))
   (af (gW hu (pv 3) ai (dC oO (pv 5) i7 (cW (ax aP (pv 4) ah))) rfl)
   (af (gW hu (pv 3) ai (dC oO (pv 5) (cW (ax aP (pv 4) ah)) (cW (aA bV (ax aP (pv 4) ah) (ax aP (pv 4) ah)))) rfl)
   (bf (uk H p most) (gW hu (pv 3) ai (ax aP (aT (aa iw (aa (ar G' LU rfl (aa (pv 0) (aa (aC (nE rfl) (by rfl) B.max PyProof.Rows.boot_max (aa ah (aa (ax aP (pv 4) ah) ac))) ac))) ac))) (aV fB (by rfl) B.int K8 (aa (fX (cq nC (ax aP (pv 4) ah) ah) (fW (cq aW (ar G' LU rfl (aa (pv 0) (aa ah ac))) ah))) ac))) rfl)
   (af (gW hu (pv 3) ai (aT ac) rfl)
   (af (bL (i:=6) Ot.nd (ax aP (aT (aa ah (aa ah (aa ah (aa ah ac))))) (pv 2)))
   (bf (zO p most H) (bL (i:=7) Ot.nd (ax aP (aT (aa ah (aa ah (aa ah (aa (aA bV ah (ar G' LU rfl (aa (pv 0) (aa ah ac)))) ac))))) (pv 2)))
   (af (dB h_ rfl (de (ar LN LV rfl (aa (pv 0) (aa (ax aP (aT (aa ah (aa ah (aa ah (aa (aA bV ah (ar G' LU rfl (aa (pv 0) (aa (pv 1) ac)))) ac))))) (pv 2)) ac)))) (cG (i:=8) Ot.nd)
    (af (bL (i:=9) Ot.nd (aT ac))
    (af (dB h_ rfl (gR rfl B.range (aa (ar G' LU rfl (aa (pv 0) (aa ah ac))) ac)) (cG (i:=10) Ot.nd)
     (af (bL (i:=11) Ot.nd (ax aP (aT (aa ai (aa ai (aa ai (aa ai ac))))) (ar G' LU rfl (aa (pv 0) (aa (aA bV ah (aV fB (by rfl) B.int K8 (aa (cq nC (ax aP (pv 4) ah) ah) ac))) ac)))))
     (aj (aM (cu Kp Kk Kj bz (pv 9) (aa (ay (aa (ax aP (pv 5) (aA bV (aA bV (ax aP (pv 4) ah) (ax aP (pv 4) ah)) (pv 10))) (aa (pv 11) ac))) ac))))))
    (aj (aM (cu Kp Kk Kj bz (aZ hu (pv 3) ai) (aa (ay (aa (pv 8) (aa (pv 9) (aa (ar DE hr rfl (aa (pv 0) (aa (pv 3) (aa (pv 9) (aa (pv 6) (aa (pv 7) ac)))))) ac)))) ac)))))))
   (aj (aq (pv 3))))))))))))),?_⟩
  refine⟨?_,?_⟩
  ·rintro σ H1 ⟨LX,rfl,Vn,g1,b1⟩;refine fun d nd=>?_;have s2:=ag (o:=.dK []) nd;have ed2:(aI H1 d (.dK [])) d=some (.dK []):=ae;have g2:=g1.same s2;have pd:p≠d:=g1.ne nd;have dH:H d=none:=ue b1 g1 nd;have b2:=b1.same s2;generalize aI H1 d (.dK ([]:List (dv×V)))=H2 at*;refine⟨_,rfl,p,21,rfl,g2,zd,zd,fun w0 H3 hw0 g3 b3=>?_⟩;refine⟨_,_,rfl,rfl,_,rfl,p,61,rfl,g3,zd,zd,fun c0 H4 hc0 g4 b4=>?_⟩;refine⟨_,_,rfl,rfl,_,rfl,p,9,rfl,g4,zd,zd,fun d0 H5 hd0 g5 b5=>?_⟩;have b25:=(b3.trans b4).trans b5;have ed5:=b25 _ _ ed2 pd.symm;obtain⟨kv,ek,lk,w1,w2,w3⟩:=JJ (.int ((4+w0:Nat):Int)) (.int ((4+c0:Nat):Int)) (.int ((d0:Nat):Int));refine⟨ed5,[(Sum.inr R_,.int ((4+w0:Nat):Int)),(Sum.inr Se,.int ((4+c0:Nat):Int)),(Sum.inr Sh,.int ((d0:Nat):Int))],rfl,by show 3<=15;decide,?_⟩;have ek':gh [] [(Sum.inr R_,V.int ((4+w0:Nat):Int)),(Sum.inr Se,V.int ((4+c0:Nat):Int)),(Sum.inr Sh,V.int ((d0:Nat):Int))]=kv:=ek;rw[ek'];have ed6:(aI H5 d (.dK kv)) d=some (.dK kv):=ae;have g6:N6 (aI H5 d (.dK kv)) p:=let⟨x,y,z,e⟩:=g5;⟨x,y,z,eE e ed5⟩;have b6:Of p H (aI H5 d (.dK kv)):=fun b o e nb=>by rw[am (az e dH)];exact(b2.trans b25) b o e nb
   generalize aI H5 d (.dK kv)=H6 at*;clear ed5 g5 g4 g3 g2 b25 b5 b4 b3 b2 b1 g1 ed2 s2 nd;refine⟨?_,?_⟩;rotate_left
   ·refine⟨_,rfl,p,4,rfl,g6,zd,zd,fun a0 H7 ha0 g7 b7=>?_⟩;refine⟨_,_,rfl,rfl,_,rfl,p,4,rfl,g7,zd,zd,fun b0 H8 hb0 g8 b8=>?_⟩;refine⟨N5,fun LY nmn=>?_⟩;have b68:=b7.trans b8;have ed8:=b68 _ _ ed6 pd.symm;have b08:=b6.trans b68;have s9:=ag (o:=.lst [.int ((1+a0:Nat):Int),.int (b0:Nat)]) nmn;exact⟨LX,d,LY,1+a0,b0,kv,4+w0,4+c0,d0,rfl,Vn,g8.same s9,b08.same s9,dH,pd,s9 _ _ ed8,ae,g8.ne nmn,zo,zo,zo,lk,zo,zo,zo,zo,zo,w1,w2,w3⟩
   clear g6 b6 ed6 dH pd ek ek' w1 w2 w3 lk hw0 hc0 hd0 Vn;rintro σ H9 ⟨LX,d,LY,A,b,kv,W,cl,dp,rfl,Vn,g9,b09,dH,pd,ed9,emn,pmn,Ys,Yr,Yp,lk,W5,UW,WB,UI,Wz,w1,w2,w3⟩;refine⟨?_,?_⟩
   ·clear emn g9 b09 ed9 pmn;rintro σ H1 ⟨d,LY,ln,A,b,LX,zs,kv,W,cl,dp,⟨rfl,T1,Vn,Ys,Yr,Yp,Xn,Vd,UH,W5,UW,WB,UI,Wz,_,k1,k2,k3⟩,hkl⟩;refine⟨_,rfl,_,rfl,LY,_,_,_,rfl,rfl,N0.of T1.emn,bu,(A:Int),rfl,ln,_,rfl,N0.of T1.eln,fun lp nlp=>?_⟩;rw[E5,oh];generalize zz:aI H1 lp _=H2;have s2:=(nw nlp zz).1;have ep2:H2 lp=some (.lst (al (zs.take A))):=(nw nlp zz).2;clear zz;have T2:=T1.same s2;refine⟨_,rfl,d,_,rfl,O6.k (k:=kS Sa) T2.ed zo,?_⟩;have T3:=T2.put (bC kv (kS Sa) (.ref lp));have ep3:=eE (kv':=bC kv (kS Sa) (.ref lp)) ep2 T2.ed;generalize aI H2 d (.dK (bC kv (kS Sa) (.ref lp)))=H3 at*;clear T2 ep2 s2 T1 nlp;refine⟨_,rfl,_,rfl,LY,_,_,_,rfl,rfl,N0.of T3.emn,bu,(A:Int),rfl,_,rfl,LY,_,_,_,rfl,rfl,N0.of T3.emn,bu,_,rfl,LY,_,_,_,rfl,rfl,N0.of T3.emn,cI,_,_,rfl,rfl,((A+b:Nat):Int),rfl,ln,_,rfl,N0.of T3.eln,fun lm nlm=>?_⟩;rw[E6 _ A b (by rw[eQ];lia),xi,oh];generalize zz:aI H3 lm _=H4;have s4:=(nw nlm zz).1;have em4:H4 lm=some (.lst (al ((zs.drop A).take b))):=(nw nlm zz).2;clear zz;have T4:=T3.same s4;have ep4:=s4 _ _ ep3;have l1:=mw kv (kS Sa) (.ref lp);refine⟨_,rfl,d,_,rfl,O6.k (k:=kS Sg) T4.ed zo,?_⟩;have l2:=mw (bC kv (kS Sa) (.ref lp)) (kS Sg) (.ref lm);have T5:=T4.put (bC (bC kv (kS Sa) (.ref lp)) (kS Sg) (.ref lm));have ep5:=eE (kv':=bC (bC kv (kS Sa) (.ref lp)) (kS Sg) (.ref lm)) ep4 T4.ed;have em5:=eE (kv':=bC (bC kv (kS Sa) (.ref lp)) (kS Sg) (.ref lm)) em4 T4.ed;generalize aI H4 d (.dK (bC (bC kv (kS Sa) (.ref lp)) (kS Sg) (.ref lm)))=H5 at*;have j1:bx (bC (bC kv (kS Sa) (.ref lp)) (kS Sg) (.ref lm)) (kS R_)=some (.int (W:Nat)):=by rw[ck zk,ck zk];exact k1
    have j2:bx (bC (bC kv (kS Sa) (.ref lp)) (kS Sg) (.ref lm)) (kS Se)=some (.int (cl:Nat)):=by rw[ck zk,ck zk];exact k2
    have j3:bx (bC (bC kv (kS Sa) (.ref lp)) (kS Sg) (.ref lm)) (kS Sh)=some (.int (dp:Nat)):=by rw[ck zk,ck zk];exact k3
    have j4:bx (bC (bC kv (kS Sa) (.ref lp)) (kS Sg) (.ref lm)) (kS Sa)=some (.ref lp):=by rw[ck zk,iP]
    have j5:bx (bC (bC kv (kS Sa) (.ref lp)) (kS Sg) (.ref lm)) (kS Sg)=some (.ref lm):=by rw[iP]
    have l12:(bC (bC kv (kS Sa) (.ref lp)) (kS Sg) (.ref lm)).length<=5:=by lia
    generalize bC (bC kv (kS Sa) (.ref lp)) (kS Sg) (.ref lm)=kv5 at*;clear T4 T3 ep4 ep3 em4 s4 l1 l2 k1 k2 k3 nlm hkl;refine⟨?_,?_⟩
    ·clear T5 ep5 em5 j1 j2 j3 j4 j5 l12;rintro σ H6 ⟨d,LY,ln,A,b,LX,zs,kv,W,cl,dp,lp,lm,gt,⟨rfl,T6,Vn,Ys,Yr,Yp,Xn,Vd,UH,W5,UW,WB,UI,Wz,_,k1,k2,k3⟩,hkl,k4,k5,k6,ep6,em6,Ua⟩;refine⟨N5,fun lk Wi=>?_⟩;generalize zz:aI H6 lk _=H7;have⟨s7,ek7⟩:=nw Wi zz;clear zz;have T7:=T6.same s7;have Yv:=s7 _ _ ep6;have Yw:=s7 _ _ em6;have n1:=az T6.emn Wi;have n2:=az T6.eln Wi;have n3:=az ep6 Wi;have n4:=az em6 Wi;have n5:H lk=none:=ue T6.bb T6.g Wi;have n6:p≠lk:=T6.g.ne Wi;refine⟨_,rfl,d,_,rfl,O6.k (k:=kS SC) T7.ed zo,?_⟩;have TL8:TL H p d LY ln lp lm lk A b W cl dp zs (bC kv (kS SC) (.ref lk)) gt (aI H7 d (.dK (bC kv (kS SC) (.ref lk)))):=
      ⟨T7.put _,by rw[ck zk];exact k1,by rw[ck zk];exact k2,by rw[ck zk];exact k3,by rw[ck zk];exact k4,by rw[ck zk];exact k5,by rw[ck zk];exact k6,by rw[iP],eE Yv T7.ed,eE Yw T7.ed,n1,n2,n3,n4,n5,n6⟩
     have ek8:=eE (kv':=bC kv (kS SC) (.ref lk)) ek7 T7.ed;generalize aI H7 d (.dK (bC kv (kS SC) (.ref lk)))=H8 at*;generalize bC kv (kS SC) (.ref lk)=kv8 at*;clear T7 T6 Yv Yw ep6 em6 s7 Wi ek7 k1 k2 k3 k4 k5 k6 hkl;refine⟨N5,fun l9 n9=>?_⟩;generalize zz:aI H8 l9 _=H9;have⟨s9,e9⟩:=nw n9 zz;clear zz;have TL9:=TL8.same s9;have ek9:=s9 _ _ ek8;refine⟨_,rfl,l9,_,_,_,rfl,rfl,N0.of e9,aU (G7 Vn),?_⟩;clear TL8 ek8 s9 e9 n9;refine⟨?_,?_⟩;rotate_left
     ·refine⟨_,rfl,p,2,rfl,TL9.tn.g,zd,zd,fun r Ha hra ga ba=>?_⟩;refine⟨_,_,rfl,rfl,N5,fun lb nb=>?_⟩;have sb:=ag (o:=.lst [V.int 2,.int 2,.int 4,.int (2+(r:Int))]) nb;have eb:(aI Ha lb (.lst [V.int 2,.int 2,.int 4,.int (2+(r:Int))])) lb=some (.lst [V.int 2,.int 2,.int 4,.int (2+(r:Int))]):=ae;refine⟨_,rfl,lb,_,_,_,rfl,rfl,N0.of eb,aU (G8 r Vn),?_⟩;exact⟨d,LY,ln,A,b,LX,zs,kv8,W,cl,dp,lp,lm,lk,gt,_,_,rfl,(TL9.but ga ba).same sb,sb _ _ (ba _ _ ek9 n6.symm),Vn,Hd Vn hra,Ys,Yr,Yp,Xn,Vd,UH,W5,UW,WB,UI,Wz,Ua⟩
     clear TL9 ek9 n1 n2 n3 n4 n5 n6;rintro σ H1 ⟨d,LY,ln,A,b,LX,zs,kv,W,cl,dp,lp,lm,lk,gt,c,k,rfl,Uc,Xz,Vn,hck,Ys,Yr,Yp,Xn,Vd,UH,W5,UW,WB,UI,Wz,Ua⟩;refine⟨_,rfl,_,rfl,_,rfl,p,most,rfl,Uc.tn.g,zo,zo,fun r H2 hr2' g2 b2=>?_⟩;refine⟨_,_,rfl,rfl,N5,fun l3 n3=>?_⟩;have s3:=ag (o:=.lst [V.int 8,.int 1,.int 5,.int (1+(r:Int))]) n3;have e3:(aI H2 l3 (.lst [V.int 8,.int 1,.int 5,.int (1+(r:Int))])) l3=some (.lst [V.int 8,.int 1,.int 5,.int (1+(r:Int))]):=ae;refine⟨_,rfl,l3,_,_,_,rfl,rfl,N0.of e3,aU (G9 r Vn),?_⟩;have TL3:=(Uc.but g2 b2).same s3;have ek3:=s3 _ _ (b2 _ _ Xz Uc.pk.symm);have Xr:=Hf Vn hck hr2' Y1;obtain⟨hn1,hn8,hc3,Wn,hk4⟩:=ki Xr;generalize ([8,1,5,1+r]:TJ).getD LX 0=nk at*;generalize aI H2 l3 (.lst [V.int 8,.int 1,.int 5,.int (1+(r:Int))])=H3 at*;refine⟨p,nk,rfl,TL3.tn.g,zo,fun lkn H4 kz hkl hknd hknf g4 b4 nkn ekn=>?_⟩;have VB:=TL3.but g4 b4;have ek4:=b4 _ _ ek3 TL3.pk.symm;have Wi:lkn≠lk:=(az ek3 nkn).symm;clear TL3 Uc ek3 Xz e3 s3 n3 g2 b2 nkn;refine⟨lkn,rfl,⟨_,N0.of ekn⟩,?_⟩;have h3l:zs.length=A+b+3:=Xn;refine lC (K:=K) (a:=lkn) (xs:=al kz) (fun i σ H'=>∃(v8 v9 Uq Uh:Option V)(us:TQ)(LZ:List Kn),σ=[some (.ref p),some (.int most),some (.int (LX:Nat)),some (.ref d),some (.ref LY),some (.ref ln),some (.int (c:Nat)),some (.int (k:Nat)),v8,v9,Uq,Uh]/\TL H p d LY ln lp lm lk A b W cl dp zs kv gt H'/\H' lkn=some (.lst (al kz))/\H' lk=some (.lst us)/\Paired (Qt lk H') us LZ/\LZ.map Kn.name=kz.take i/\∀x∈LZ,KL W (zs.take A) ((zs.drop A).take b) (zs.drop (A+b)) c k x) ⟨_,_,_,_,[],[],rfl,VB,ekn,ek4,.nil,rfl,fun x hx=>by cases hx⟩ (fun i σ H' _⟨_,_,_,_,_,_,_,_,e',_⟩=>N0.of e') ?_ ?_
     ·rintro i x σ H1 hx ⟨v8,v9,Uq,Uh,us,LZ,rfl,Uc,XY,Xz,L9,Vo,hkk⟩;obtain⟨z,hz,rfl⟩:=vL hx;have hlus:=L9.length;have hi8:=(JV.mp hz).1;have Y8:LZ.length=i:=by
       have:=e_ List.length Vo;rw[JY,J9]at this;have:=(JV.mp hz).1;lia
      refine⟨N5,fun lf nlf=>?_⟩;generalize zz:aI H1 lf _=H2;have⟨s2,ef2⟩:=nw nlf zz;clear zz;have flk:lf≠lk:=(az Xz nlf).symm;have Z6:p≠lf:=Uc.tn.g.ne nlf;have g2:=Uc.tn.g.same s2;refine⟨_,rfl,p,4,rfl,g2,zd,zd,fun j4 H3 hj4 g3 b3=>⟨_,rfl,zo,zo,?_⟩⟩;rw[show((j4:Int)).toNat=j4 from Lf j4];have b13:Of p H1 H3:=(dW s2).trans b3;refine gS (lo:=0) (n:=j4) (fun j σ H'=>∃(Uq Uh:Option V)(fu:TQ)(fs:TM),σ=[some (.ref p),some (.int most),some (.int (LX:Nat)),some (.ref d),some (.ref LY),some (.ref ln),some (.int (c:Nat)),some (.int (k:Nat)),some (.str z),some (.ref lf),Uq,Uh]/\N6 H' p/\Of p H1 H'/\H' lf=some (.lst fu)/\Paired (Oh H') fu fs/\fs.map (·.1)=(zs.drop (A+b)).take j/\∀f∈fs,f.2∈dq) ⟨_,_,[],[],rfl,g3,b13,b3 _ _ ef2 Z6.symm,.nil,rfl,fun f hf=>by cases hf⟩ ?_ ?_
      ·rintro j σ H4 hj ⟨Uq,Uh,fu,fs,rfl,g4,b4,ef4,U8,Zb,U9⟩;have hj':j<j4:=hj;have e0:((0:Int)+(j:Int))=(j:Int):=by lia
       rw[e0];have VB:=Uc.but g4 b4;refine⟨N5,fun l5 n5=>?_⟩;generalize zz:aI H4 l5 _=H5;have⟨s5,e5⟩:=nw n5 zz;clear zz;have pl5:p≠l5:=g4.ne n5;have TL5:=VB.same s5;obtain⟨hs3,hs4⟩:=Cy b;refine⟨_,rfl,_,rfl,LY,_,_,_,rfl,rfl,N0.of TL5.tn.emn,cI,_,_,rfl,rfl,.inr ⟨_,rfl,_,_,rfl,rfl,?_⟩⟩;refine⟨p,xj b,e_ (fun x=>[V.ref p,V.int x]) (Cw b),TL5.tn.g,zo,zo,fun si H6 hsi g6 b6=>?_⟩;obtain⟨hs1,Xq⟩:=Cv (i:=si) zo;refine⟨l5,_,_,_,rfl,rfl,N0.of (b6 _ _ e5 pl5.symm),aU hs1,?_⟩;have W9:=TL5.but g6 b6;have V7:Of p H4 H6:=(dW s5).trans b6;have ef6:=V7 _ _ ef4 Z6.symm;have YQ:N9 H4 H6:=dX g4 V7;have hin:A+b+j<zs.length:=by lia
       refine⟨_,rfl,.inl ⟨rfl,_,N0.of ef6⟩,?_⟩;refine⟨_,rfl,_,rfl,LY,_,_,_,rfl,rfl,N0.of W9.tn.emn,bu,_,rfl,LY,_,_,_,rfl,rfl,N0.of W9.tn.emn,cI,_,_,rfl,rfl,_,rfl,_,_,rfl,rfl,ln,_,_,_,rfl,rfl,N0.of W9.tn.eln,Hg hin,_,rfl,N5,fun t nt=>?_⟩;generalize zz:aI H6 t _=H7;have⟨s7,e7⟩:=nw nt zz;clear zz;have g7:=g6.same s7;have ef7:=s7 _ _ ef6;have lfu:=U8.length;have lfs:fs.length=j:=by
        have:=e_ List.length Zb;rw[JY,J9,KU]at this;lia
       refine⟨lf,_,_,rfl,rfl,ef7,zo,?_⟩;have kt:N9 H7 (aI H7 lf (.lst (fu++[.ref t]))):=fun b' xs eb=>by
        rw[am]
        ·exact eb
        ·rintro rfl;rw[ef7]at eb;cases eb
       have k47:N9 H4 (aI H7 lf (.lst (fu++[.ref t]))):=fun b' xs eb=>kt _ _ (s7 _ _ (YQ _ _ eb));refine⟨_,_,fu++[.ref t],fs++[(zs[A+b+j],QY.getD si "")],rfl,?_,?_,ae,gO ⟨t,rfl,kt _ _ e7⟩ (bF (fun _ _ h=>Oh.kt2 k47 h) U8),?_,?_⟩
       ·obtain⟨x,y,z',ex⟩:=g7;exact⟨x,y,z',by rw[am Z6];exact ex⟩
       ·intro b' o eb nb;rw[am (az eb nlf)];exact s7 _ _ ((b4.trans V7) b' o eb nb)
       ·rw[Kb,Zb,KE,List.getElem?_drop,J1 hin];rfl
       ·intro f hf;rcases Ko.mp hf with h|h
        ·exact U9 f h
        ·rw[Kz.mp h];exact Xq
      ·rintro σ H4 ⟨Uq,Uh,fu,fs,rfl,g4,b4,ef4,U8,Zb,U9⟩;have VB:=Uc.but g4 b4;have ek4:=b4 _ _ Xz Uc.pk.symm;have lfs:fs.length=j4:=by
        have:=e_ List.length Zb;rw[JY,J9,KU]at this;lia
       refine⟨_,rfl,d,_,rfl,bj VB.tn.ed VB.v7,.inl ⟨rfl,_,N0.of ek4⟩,?_⟩;have hTb:Qv H4 d W (zs.take A) ((zs.drop A).take b):=⟨kv,lp,lm,VB.tn.ed,VB.v1,VB.v4,VB.v5,VB.ep,VB.em⟩;have hLx:Lx H4 p d lf W (zs.take A) ((zs.drop A).take b) fs:=⟨g4,hTb,⟨fu,ef4,U8⟩,zo,W5,UW,by rw[J9];lia,by rw[J9];lia,by rw[J9];lia,fun z hz=>UH z (List.mem_of_mem_drop (Ln hz)),fun z hz=>UH z (Ln hz)⟩;refine⟨_,rfl,_,rfl,_,rfl,_,rfl,_,rfl,_,rfl,_,rfl,p,d,lf,W,zs.take A,(zs.drop A).take b,fs,c,k,rfl,hLx,Wn,hk4,zo,fun v H5 dd g5 b5 hv hdo=>⟨N5,fun t nt=>?_⟩⟩;have s6:=ag (o:=.tup [.str z,.ref lf,v]) nt;have e6:(aI H5 t (.tup [.str z,.ref lf,v])) t=some (.tup [.str z,.ref lf,v]):=ae;have g6:=g5.same s6;have ek6:=s6 _ _ (b5 _ _ ek4 Uc.pk.symm);have V7:Of p H4 (aI H5 t (.tup [.str z,.ref lf,v])):=b5.same s6;have hv6:=hv.kt (ao s6);generalize aI H5 t (.tup [V.str z,.ref lf,v])=H6 at*;have W9:=VB.but g6 V7;have b16:Of p H1 H6:=b4.trans V7;refine⟨lk,_,_,rfl,rfl,ek6,zo,?_⟩;have kt:N9 H6 (aI H6 lk (.lst (us++[.ref t]))):=fun b' xs eb=>by
        rw[am]
        ·exact eb
        ·rintro rfl;rw[ek6]at eb;cases eb
       have k16:=dX Uc.tn.g b16;have YQ:=dX g4 V7;refine⟨_,_,_,_,us++[.ref t],LZ++[⟨z,fs,js (zs.take A) ((zs.drop A).take b) fs dd,dd⟩],rfl,W9.app ek6 _,?_,ae,?_,?_,?_⟩
       ·rw[am Wi];exact b16 _ _ XY (bv Uc.tn.g XY (cE _))
       ·refine gO ⟨t,lf,v,rfl,flk,kt _ _ e6,⟨fu,?_,bF (fun _ _ h=>Oh.kt2 kt (Oh.kt2 YQ h)) U8⟩,hv6.kt kt⟩ (bF (fun _ _ h=>Qt.kp (fun b' xs eb=>kt _ _ (k16 _ _ eb)) (fun x' UP nx W6 ex TU=>by
         rw[am nx];exact zL (lk:=lk) Uc.tn.g b16 x' UP nx W6 ex TU) h) L9)
        rw[am flk];exact V7 _ _ ef4 Z6.symm
       ·rw[Kb,Vo,KE,hz];rfl
       ·intro x Uk;rcases Ko.mp Uk with h|h
        ·exact hkk x h
        ·rw[Kz.mp h];exact⟨⟨j4,zo,Zb⟩,U9,hdo,rfl⟩
     ·rintro σ H1 ⟨v8,v9,Uq,Uh,us,LZ,rfl,Uc,XY,Xz,L9,Vo,hkk⟩;rw[eQ,Ky]at Vo;have hln:LZ.length=nk:=by
       have:=e_ List.length Vo;rw[JY]at this;lia
      have sp3:=Fd zs A b;refine⟨_,rfl,q d H1 ⟨W,cl,dp,zs.take A,(zs.drop A).take b,gL ((zs.drop A).take b) gt,LZ⟩ gt kv lp lm lk us (zs.drop (A+b)) Uc.tn.g Uc.tn.bb ⟨Uc.tn.ed,Uc.v1,Uc.v2,Uc.v3,Uc.v4,Uc.v5,Uc.v6,Uc.v7,Uc.ep,Uc.em,Xz,L9⟩ ?_⟩;refine⟨W5,UW,WB,UI,Wz,?_,?_,?_,?_,?_,?_,?_,?_,rfl,?_,?_⟩
      ·show 1<=(zs.take A).length;rw[J9];lia
      ·show(zs.take A).length<=4;rw[J9];lia
      ·show((zs.drop A).take b).length<=3;rw[J9];lia
      ·rw[KU];lia
      ·show(zs.take A++(zs.drop A).take b++zs.drop (A+b)).Nodup;rw[sp3];exact Vd
      ·show ∀z∈zs.take A++(zs.drop A).take b++zs.drop (A+b),cm z;rw[sp3];exact UH
      ·show(LZ.map Kn.name).Nodup;rw[Vo];exact hknd
      ·intro x Uk;exact hknf _ (by rw[<-Vo];exact Kr.mpr ⟨x,Uk,rfl⟩)
      ·intro g hg;have:=Ua g hg;show g<((zs.drop A).take b).length;rw[J9,KU];lia
      ·refine⟨c,k,?_,hkk⟩;show pY LZ.length c k;rw[hln];exact Xr
    ·have emx:(if(b:Int)>1 then(b:Int)else 1)=((max 1 b:Nat):Int):=by split<;>lia
     refine⟨_,rfl,_,rfl,LY,_,_,_,rfl,rfl,N0.of T5.emn,cI,_,_,rfl,p,max 1 b,e_ (fun x=>[V.ref p,V.int x]) emx,T5.g,zo,zo,fun gg H6 hgg g6 b6=>⟨N5,fun YO ngt=>?_⟩⟩;generalize zz:aI H6 YO _=H7;have⟨s7,e7⟩:=nw ngt zz;clear zz;have plg:p≠YO:=g6.ne ngt;have T7:=(T5.but g6 b6).same s7;have Yv:=s7 _ _ (b6 _ _ ep5 (bv T5.g ep5 (cE _)));have Yw:=s7 _ _ (b6 _ _ em5 (bv T5.g em5 (cE _)));have F':∀(H8:Hp)(gt:Option Nat),TN H p d LY ln A b zs kv5 H8->H8 lp=some (.lst (al (zs.take A)))->H8 lm=some (.lst (al ((zs.drop A).take b)))->(∀g,gt=some g->g<b)->uk H p most [some (.ref p),some (.int most),some (.int (LX:Nat)),some (.ref d),some (.ref LY),some (.ref ln),none,none,none,none,none,none] (aI H8 d (.dK (bC kv5 (kS Sx) (gV gt)))):=by
      intro H8 gt T8 e1 e2 hg;have l3:=mw kv5 (kS Sx) (gV gt);exact⟨d,LY,ln,A,b,LX,zs,_,W,cl,dp,lp,lm,gt,⟨rfl,T8.put _,Vn,Ys,Yr,Yp,Xn,Vd,UH,W5,UW,WB,UI,Wz,zo,by rw[ck zk];exact j1,by rw[ck zk];exact j2,by rw[ck zk];exact j3⟩,zo,by rw[ck zk];exact j4,by rw[ck zk];exact j5,by rw[iP],eE e1 T8.ed,eE e2 T8.ed,hg⟩
     refine⟨_,rfl,LY,_,_,_,rfl,rfl,N0.of T7.emn,cI,_,_,rfl,rfl,_,rfl,bW (fun h=>?_) (fun h=>?_)⟩
     ·have hb0:0<b:=by have:=k_ h;lia
      refine⟨_,rfl,p,2,rfl,T7.g,zd,zd,fun r H8 hr8 g8 b8=>⟨rfl,.inr ⟨_,rfl,?_⟩⟩⟩;have T8:=T7.but g8 b8;have ep8:=b8 _ _ Yv (bv T7.g Yv (cE _));have em8:=b8 _ _ Yw (bv T7.g Yw (cE _));have e8:=b8 _ _ e7 plg.symm;by_cases h0:r=0
      ·subst h0;refine⟨YO,_,1,_,rfl,rfl,N0.of e8,cI,_,rfl,d,_,rfl,O6.k (k:=kS Sx) T8.ed zo,?_⟩;exact F' H8 (some gg) T8 ep8 em8 fun g e=>by cases e;lia
      ·have hd0:decide (V.int (r:Nat)=V.int 0)=false:=d_ fun e=>by
        have:=V.int.inj e;lia
       rw[hd0];refine⟨YO,_,0,_,rfl,rfl,N0.of e8,bu,_,rfl,d,_,rfl,O6.k (k:=kS Sx) T8.ed zo,?_⟩;exact F' H8 none T8 ep8 em8 fun g e=>by cases e
     ·refine .inr ⟨_,rfl,?_⟩;refine⟨YO,_,0,_,rfl,rfl,N0.of e7,bu,_,rfl,d,_,rfl,O6.k (k:=kS Sx) T7.ed zo,?_⟩;exact F' H7 none T7 Yv Yw fun g e=>by cases e
   ·refine⟨_,rfl,_,rfl,LY,_,_,_,rfl,rfl,N0.of emn,bu,_,rfl,LY,_,_,_,rfl,rfl,N0.of emn,cI,_,_,rfl,rfl,_,_,rfl,rfl,p,A+b+3,rfl,g9,zo,fun ln Ha zs Xn Vd UH ga ba nln eln=>?_⟩;exact⟨d,LY,ln,A,b,LX,zs,kv,W,cl,dp,⟨rfl,⟨ga,b09.trans ba,dH,pd,ba _ _ ed9 pd.symm,ba _ _ emn pmn.symm,eln⟩,Vn,Ys,Yr,Yp,Xn,Vd,UH,W5,UW,WB,UI,Wz,zo,w1,w2,w3⟩,lk⟩
  ·refine⟨_,rfl,p,24,rfl,hp,zd,zd,fun r H1 Uu g1 b1=>?_⟩;refine⟨_,_,rfl,?_⟩;refine⟨min r 3,e_ (fun x=>[some (V.ref p),some (.int most),some (.int x),none,none,none,none,none,none,none,none,none]) ?_,zo,g1,b1⟩;show(if(r:Int)<3 then(r:Int)else 3)=((min r 3:Nat):Int);split<;>lia
end
end
def jt(c:Nat):Prop:=(97<=c/\c<=122)\/(48<=c/\c<=57)
def vN(h:jt c):TK.gx c=false:=by
 unfold jt at h;unfold TK.gx;simp;lia
def ul(h:jt c):TK.dD c=false:=by
 unfold jt at h;unfold TK.dD;simp;omega
def vO(h:jt c)(r:TJ):TK.jG (c::r)=0:=by
 have hs:=ul h;unfold jt at h;cases r with
 |nil=>rw[TK.eZ,hs];rfl
 |cons d r=>
  rw[TK.eA,hs,f_ (by simp;lia)];rfl
def vP:∀t:TJ,(∀c∈t,jt c)->TK.run t=t.length
 |[],_=>rfl
 |c::r,h=>by
  have hc:=h c JW;rw[TK.cB,vN hc,vO hc,f_ (by simp),vP r (fun d hd=>h d (JZ _ hd)),JX];lia
def pZ(Ma:t≠[])(h:∀c∈t,jt c):TK.Tok t:=by
 cases t with
 |nil=>exact absurd rfl Ma
 |cons c r=>
  have hc:=h c JW;have:=TK.kC (r:=r) (vN hc);have e:TK.one (c::r)=(c::r).length:=by
   unfold TK.one;rw[g_ (vO hc r),vP _ h]
  rw[e,Ky]at this;exact this
def ig(h:r≠[]):TK.jn sep (t::r)=t++(sep++TK.jn sep r):=by
 cases r with
 |nil=>exact absurd rfl h
 |cons u r=>rfl
def um:∀{a b:List (TJ)},a≠[]->b≠[]->TK.jn sep (a++b)=TK.jn sep a++(sep++TK.jn sep b)
 |[],_,h,_=>absurd rfl h
 |[t],b,_,hb=>ig hb
 |t::u::r,b,_,hb=>by
  show TK.jn sep (t::(u::r++b))=_;rw[ig (by simp),um (by simp) hb,ig (t:=t) (r:=u::r) (by simp)];simp
def vQ:∀gs:List (List (TJ)),(∀g∈gs,g≠[])->TK.jn sep (gs.map (TK.jn sep))=TK.jn sep gs.flatten
 |[],_=>rfl
 |[g],_=>by simp[TK.jn]
 |g::h::r,hg=>by
  have ih:=vQ (sep:=sep) (h::r) (fun x hx=>hg x (JZ _ hx));have e:(g::h::r).flatten=g++(h::r).flatten:=LH;rw[Kd,ig (by simp),ih,e];have Ma:(h::r).flatten≠[]:=by
   have:=hg h (by simp);simp[this]
  rw[um (hg g JW) Ma]
def N8.len(h:N8 z):(cp z).length<=8:=by
 have:=h.2.2.1;have e:z.length=(cp z).length:=by unfold cp;simp[Str.length]
 lia
def N8.pos(h:N8 z):1<=(cp z).length:=by
 have:=h.2.1;have e:z.length=(cp z).length:=by unfold cp;simp[Str.length]
 lia
def Ja:List (TJ):=[[40],[41],[123],[125],[91],[93],[44],[59],[61],[43],[45],[38],[124],[94],[60,60],[62,62],[60]]
structure OH(z:Str):Prop where
 tok:TK.Tok (cp z)
 le:(cp z).length<=8
 cl:(∀c∈cp z,jt c)\/cp z∈Ja
def vR:TH:=["(",")","{","}","[","]",",",";","=","+","-","&","|","^","<<",">>","<"]
def OH.name(h:N8 z):OH z:=by
 refine⟨pZ (fun e=>?_) (fun c hc=>.inl (h.2.2.2 c hc)),h.len,.inl (fun c hc=>.inl (h.2.2.2 c hc))⟩;have:=h.pos;rw[e]at this;simp at this
section
variable{n:Nat}
def OH.num(h:n<100000000):OH (toString (n:Int):Str):=by
 have e:cp (toString (n:Int):Str)=dg n:=by rw[iM,gr]
 refine⟨?_,?_,.inl (fun c hc=>.inr (ma n c (by rw[e]at hc;exact hc)))⟩
 ·rw[e];refine pZ (fun e=>?_) (fun c hc=>.inr (ma n c hc));have:=(gN n).1;rw[e]at this;simp at this
 ·rw[e];exact(gN n).2 8 zd h
def OJ:TH:=[SA,Se,Sh,Sa,Sg,Sx,So,SJ,R9,Sc,"number",S2,"set",Tn,S9,S3,S5,Su,SK,SN,Sk]
def zP:(OJ.all fun z=>decide (cp z≠[])&&decide ((cp z).length<=8)&&(cp z).all fun c=>decide (97<=c)&&decide (c<=122))=true:=by decide +kernel
def OH.word(h:z∈OJ):OH z:=by
 have:=KC.mp zP z h;simp only[KQ,t_,KC]at this;exact⟨pZ this.1.1 (fun c hc=>.inl (this.2 c hc)),this.1.2,.inl (fun c hc=>.inl (this.2 c hc))⟩
def Jb(c:Nat)(h:TK.gx c=false)(h1:TK.dD c=true):TK.Tok [c]:=by
 have:=TK.kC (c:=c) (r:=[]) h;have e:TK.one [c]=1:=by
  unfold TK.one;rw[TK.eZ,g_ h1];rfl
 rw[e]at this;exact this
def OH.sign(h:z∈vR):OH z:=by
 have e:vR=([[40],[41],[123],[125],[91],[93],[44],[59],[61],[43],[45],[38],[124],[94],[60,60],[62,62],[60]]:List (TJ)).map S:=by decide +kernel
 rw[e]at h;obtain⟨t,ht,rfl⟩:=Kr.mp h;have e2:TK.Tok [60,60]:=by
  have:=TK.kC (c:=60) (r:=[60]) rfl;exact this
 have e3:TK.Tok [62,62]:=by
  have:=TK.kC (c:=62) (r:=[62]) rfl;exact this
 simp only[J0,Kc,l_]at ht;rcases ht with rfl|rfl|rfl|rfl|rfl|rfl|rfl|rfl|rfl|rfl|rfl|rfl|rfl|rfl|rfl|rfl|rfl
 all_goals first
  |exact⟨e2,by rw[gr];decide,.inr (by rw[gr];decide)⟩
  |exact⟨e3,by rw[gr];decide,.inr (by rw[gr];decide)⟩
  |exact⟨Jb _ rfl rfl,by rw[gr];decide,.inr (by rw[gr];decide)⟩
def rW(h:o∈Oi):o∈vR:=by
 have:∀z∈Oi,z∈vR:=by decide +kernel
 exact this o h
def Jc(hw:w<=24)(h:n<2^w):n<100000000:=by
 have:=KS (n:=2) zd hw;have e:2^24=16777216:=by decide
 lia
def fe{w:Nat}(hw:w<=24):∀{m:Nat}{x:Ex},cO w m x->∀z∈cU x,OH z
 |0,.num n,h,z,hz=>by rw[Kz.mp hz];exact .num (Jc hw h)
 |_+1,.num n,h,z,hz=>by rw[Kz.mp hz];exact .num (Jc hw h)
 |0,.nm y,h,z,hz=>by rw[Kz.mp hz];exact .name h
 |_+1,.nm y,h,z,hz=>by rw[Kz.mp hz];exact .name h
 |0,.cell _,h,_,_=>absurd h (by simp[cO])
 |m+1,.cell e,h,z,hz=>by
  simp only[cU,J0,Ko,Kc,l_]at hz;rcases hz with rfl|hz|rfl
  ·exact .sign zk
  ·exact fe hw (m:=m) (x:=e) h z hz
  ·exact .sign zk
 |0,.two _ _ _,h,_,_=>absurd h (by simp[cO])
 |m+1,.two o x y,h,z,hz=>by
  simp only[cU,J0,Ko,Kc,l_]at hz;rcases hz with rfl|hz|rfl|hz|rfl
  ·exact .sign zk
  ·exact fe hw (m:=m) (x:=x) h.2.1 z hz
  ·exact .sign (rW h.1)
  ·exact fe hw (m:=m) (x:=y) h.2.2 z hz
  ·exact .sign zk
def DC(hw:w<=24)(h:jT w g):∀z∈jf g,OH z:=by
 intro z hz;cases g with
 |cell a e=>
  simp only[jf,J0,Ko,Kc,l_]at hz;rcases hz with rfl|hz|rfl|rfl|hz|rfl
  ·exact .sign zk
  ·exact fe hw h.1 z hz
  ·exact .sign zk
  ·exact .sign zk
  ·exact fe hw h.2 z hz
  ·exact .sign zk
 |nm y e=>
  simp only[jf,J0,Ko,Kc,l_]at hz;rcases hz with rfl|rfl|hz|rfl
  ·exact .name h.1
  ·exact .sign zk
  ·exact fe hw h.2 z hz
  ·exact .sign zk
def DD(h:pq e):∀z∈gA e,OH z:=by
 intro z hz;cases e with
 |w0 s=>
  rw[Kz.mp hz];have:∀y∈([(SJ:Str),(SK:Str),(SN:Str)]:TH),y∈OJ:=by decide +kernel
  exact .word (this _ h)
 |w1 s y=>
  simp only[gA,J0,Kc,l_]at hz;rcases hz with rfl|rfl
  ·have:∀y∈([(S5:Str),(Su:Str),(Sk:Str)]:TH),y∈OJ:=by decide +kernel
   exact .word (this _ h.1)
  ·exact .name h.2.1
def vS(hw:w<=24):∀{s:List Gs},(∀g∈s,jT w g)->∀z∈bQ s,OH z
 |[],_,z,hz=>by cases hz
 |g::r,h,z,hz=>by
  simp only[bQ,J0,Ko]at hz;rcases hz with rfl|hz|hz
  ·exact .word zk
  ·exact DC hw (h g JW) z hz
  ·exact vS hw (fun x hx=>h x (JZ _ hx)) z hz
def oj(hw:w<=24):∀{m:Nat}{b:Bd},eP w m b->∀z∈db b,OH z
 |m,.leaf s e,h,z,hz=>by
  have h2:∀g∈s,jT w g:=by cases m<;>exact h.2.1
  have h3:pq e:=by cases m<;>exact h.2.2.2
  simp only[db,J0,Ko,Kc,l_]at hz;rcases hz with rfl|hz|hz|rfl
  ·exact .sign zk
  ·exact vS hw h2 z hz
  ·exact DD h3 z hz
  ·exact .sign zk
 |0,.ite _ _ _ _,h,_,_=>absurd h (by simp[eP])
 |m+1,.ite t y a b,h,z,hz=>by
  simp only[db,J0,Ko,Kc,l_]at hz;rcases hz with rfl|rfl|hz|hz|rfl|hz|rfl
  ·exact .sign zk
  ·exact .word zk
  ·cases t with
   |true=>
    simp at hz;rcases hz with rfl|rfl
    ·exact .word zk
    ·exact .name h.1
   |false=>
    simp at hz;subst hz;exact .name h.1
  ·exact oj hw (m:=m) h.2.1 z hz
  ·exact .word zk
  ·exact oj hw (m:=m) h.2.2 z hz
  ·exact .sign zk
def kP:∀{m:Nat}{x:Ex},cO w m x->cO w (m+1) x
 |0,.num _,h=>h
 |_+1,.num _,h=>h
 |0,.nm _,h=>h
 |_+1,.nm _,h=>h
 |0,.cell _,h=>absurd h (by simp[cO])
 |m+1,.cell e,h=>kP (m:=m) (x:=e) h
 |0,.two _ _ _,h=>absurd h (by simp[cO])
 |m+1,.two o x y,h=>⟨h.1,kP (m:=m) (x:=x) h.2.1,kP (m:=m) (x:=y) h.2.2⟩
def kQ(h:cO w m x)(hn:m<=n):cO w n x:=by
 induction hn with
 |refl=>exact h
 |step _ ih=>exact kP ih
structure Hh(ps ms:TH)(fs:TM):Prop where
 p:∀z∈ps,cm z
 m:∀z∈ms,cm z
 f:∀f∈fs,cm f.1
def fq(h:fs[j]?=some (z,st)):zK fs j=z:=by
 unfold zK;rw[Kv,h];rfl
def cF(hL:∀z∈L,cm z)(hf:∀f∈fs,cm f.1)(h:cw L st fs b n):cm (eX L fs b n):=by
 unfold cw at h;unfold eX;cases b with
 |true=>
  rw[g_ rfl]at h⊢;obtain⟨z,hz⟩:=h;rw[fq hz];exact hf _ (Kg hz)
 |false=>
  rw[f_ zd]at h⊢;rw[Kv,J1 h];exact hL _ (KJ h)
def cZ(G:Hh ps ms fs):∀{m:Nat}{e:Ed},aR W ps ms fs m e->cO W m (dj ps ms fs e)
 |0,.num _,h=>by simpa[aR,cO,dj]using h
 |_+1,.num _,h=>by simpa[aR,cO,dj]using h
 |m,.fld j,h=>by
  have h':∃z:Str,fs[j]?=some (z,("number":Str)):=by cases m<;>simpa[aR]using h
  obtain⟨z,hz⟩:=h';have:N8 (zK fs j):=by rw[fq hz];exact(G.f _ (Kg hz)).1
  cases m<;>exact this
 |m,.pl b n,h=>by
  have h':cw ps R9 fs b n:=by cases m<;>simpa[aR]using h
  have:=(cF G.p G.f h').1;cases m<;>exact this
 |m,.mk b n,h=>by
  have h':cw ms Sc fs b n:=by cases m<;>simpa[aR]using h
  have:=(cF G.m G.f h').1;cases m<;>exact this
 |0,.cell _,h=>absurd h (by simp[aR])
 |m+1,.cell e,h=>cZ G (m:=m) (e:=e) (by simpa[aR]using h)
 |0,.two _ _ _,h=>absurd h (by simp[aR])
 |m+1,.two o x y,h=>by
  have h':o∈Oi/\aR W ps ms fs m x/\aR W ps ms fs m y:=by simpa[aR]using h
  exact⟨h'.1,cZ G (m:=m) h'.2.1,cZ G (m:=m) h'.2.2⟩
def DF(G:Hh ps ms fs)(hm:m<=3)(h:eU W ps ms fs m g):jT W (dk ps ms fs g):=by
 cases g with
 |cell a e=>exact⟨kQ (cZ G h.1) zo,kQ (cZ G h.2) hm⟩
 |pl b n e=>exact⟨(cF G.p G.f h.1).1,kQ (cZ G h.2) hm⟩
 |mk b n e=>exact⟨(cF G.m G.f h.1).1,kQ (cZ G h.2) hm⟩
def DG(hf:∀f∈fs,cm f.1)(h:ko fs e):pq (gz fs e):=by
 cases e with
 |w0 s=>exact h
 |fault z=>exact⟨zk,h.1,fun _=>h.2⟩
 |go s j=>
  obtain⟨h1,z,hz⟩:=h;refine⟨?_,?_,fun e=>?_⟩
  ·have:∀y∈([S5,Su]:TH),y∈([(S5:Str),(Su:Str),(Sk:Str)]:TH):=by decide +kernel
   exact this s h1
  ·rw[fq hz];exact(hf _ (Kg hz)).1
  ·rw[fq hz];exact(hf _ (Kg hz)).2
def Fe(ps ms:TH)(fs:TM)(g:Sd):(dk ps ms fs g).isCell=g.isCell:=by cases g<;>rfl
def rX:∀{l:List α},(l.filter f).length<=1->∀i j:Nat,∀g h,l[i]?=some g->l[j]?=some h->f g=true->f h=true->i=j
 |[],_,i,j,g,h,e,_,_,_=>by simp at e
 |x::r,hl,0,0,_,_,_,_,_,_=>rfl
 |x::r,hl,0,j+1,g,h,e1,e2,h1,h2=>by
  simp at e1 e2;subst e1;rw[Lj h1,JX]at hl;have:h∈r.filter f:=Lr.mpr ⟨Kg e2,h2⟩;have:=List.length_pos_of_mem this;lia
 |x::r,hl,i+1,0,g,h,e1,e2,h1,h2=>by
  simp at e1 e2;subst e2;rw[Lj h2,JX]at hl;have:g∈r.filter f:=Lr.mpr ⟨Kg e1,h1⟩;have:=List.length_pos_of_mem this;lia
 |x::r,hl,i+1,j+1,g,h,e1,e2,h1,h2=>by
  have Y3:(r.filter f).length<=1:=by
   by_cases hx:f x=true
   ·rw[Lj hx,JX]at hl;lia
   ·rw[LB hx]at hl;exact hl
  have:=rX Y3 i j g h (by simpa using e1) (by simpa using e2) h1 h2;lia
def om(G:Hh ps ms fs)(hm:m<=3):∀{c n:Nat}{d:Dd},eD W ps ms fs m c d->c<=n->eP W n (js ps ms fs d)
 |c,n,.leaf s e,h,_=>by
  have h':s.length<=4/\(s.filter Sd.isCell).length<=1/\(∀g∈s,eU W ps ms fs m g)/\ko fs e:=by cases c<;>exact h
  have hb:(s.map (dk ps ms fs)).length<=4/\(∀g∈s.map (dk ps ms fs),jT W g)/\(∀i j:Nat,∀g h,(s.map (dk ps ms fs))[i]?=some g->(s.map (dk ps ms fs))[j]?=some h->g.isCell=true->h.isCell=true->i=j)/\pq (gz fs e):=by
   refine⟨by rw[JY];exact h'.1,fun g hg=>?_,fun i j g h e1 e2 h1 h2=>?_,DG G.f h'.2.2.2⟩
   ·obtain⟨g0,W1,rfl⟩:=Kr.mp hg;exact DF G hm (h'.2.2.1 g0 W1)
   ·rw[Kl]at e1 e2;cases f1:s[i]? with
    |none=>rw[f1]at e1;cases e1
    |some g1=>
     cases f2:s[j]? with
     |none=>rw[f2]at e2;cases e2
     |some g2=>
      rw[f1]at e1;rw[f2]at e2;cases e1;cases e2;rw[Fe]at h1 h2;exact rX h'.2.1 i j g1 g2 f1 f2 h1 h2
  cases n<;>exact hb
 |0,_,.ite _ _ _,h,_=>absurd h (by simp[eD])
 |c+1,0,.ite _ _ _,_,hc=>by lia
 |c+1,n+1,.ite t y z,h,hc=>by
  obtain⟨h1,h2,h3⟩:=h;refine⟨?_,om G hm (c:=c) (n:=n) h2 zo,om G hm (c:=c) (n:=n) h3 zo⟩;cases t with
  |top b n=>exact(cF G.p G.f h1).1
  |pl b n=>exact(cF G.p G.f h1).1
  |mk b n=>exact(cF G.m G.f h1).1
end
def cS(z:Str):au [z]=cp z:=rfl
def bE(h:r≠[]):au (z::r)=cp z++(32::au r):=by
 unfold au;rw[Kd,ig (by simpa using h)];rfl
def dU(ha:a≠[])(hb:b≠[]):au (a++b)=au a++(32::au b):=by
 unfold au;rw[Kb,um (by simpa using ha) (by simpa using hb)];rfl
def fQ(gs:List (TH))(h:∀g∈gs,g≠[]):TK.jn [32] (gs.map au)=au gs.flatten:=by
 have:=vQ (sep:=[32]) (gs.map fun g=>g.map cp) (fun g hg=>by
  obtain⟨g0,W1,rfl⟩:=Kr.mp hg;simpa using h g0 W1)
 unfold au;rw[K2]at this;rw[List.map_flatten];exact this
def bG(h:∀z∈zs,OH z):(au zs).length<=9*zs.length:=by
 have h3:=iO 8 (zs.map cp) fun t ht=>by
  obtain⟨z,hz,rfl⟩:=Kr.mp ht;exact(h z hz).le
 have h4:=ud [32] (zs.map cp);rw[JY]at*;simp only[JX,Ke]at*;unfold au;lia
def mG(x:Ex):cU x≠[]:=by cases x<;>simp[cU]
def CA:(("[ ":Str)=S [91,32])/\((" ]":Str)=S [32,93]):=by decide +kernel
def on(l:TH)(h:l≠[]):[91,32]++au l++[32,93]=au (("[":Str)::(l++[("]":Str)])):=by
 rw[bE (by simp),dU h (by simp),cS];have e1:cp ("[":Str)=[91]:=by decide +kernel
 have e2:cp ("]":Str)=[93]:=by decide +kernel
 rw[e1,e2];simp
def zQ(o:Str)(a b:TH)(ha:a≠[])(hb:b≠[]):TK.jn [32] [cp "(",au a,cp o,au b,cp ")"]=au (("(":Str)::(a++o::(b++[(")":Str)]))):=by
 have:=fQ [[("(":Str)],a,[o],b,[(")":Str)]] (by
  intro g hg;simp only[J0,Kc,l_]at hg;rcases hg with rfl|rfl|rfl|rfl|rfl
  ·simp
  ·exact ha
  ·simp
  ·exact hb
  ·simp)
 have e:([[("(":Str)],a,[o],b,[(")":Str)]]:List (TH)).flatten=(("(":Str)::(a++o::(b++[(")":Str)]))):=by simp
 rw[e]at this;exact this
structure Tx(H:Hp)(d lf:Ts)(W:Nat)(ps ms:TH)(fs:TM):Prop where
 t:Qv H d W ps ms
 f:Qg H lf fs
 w24:W<=24
 G:Hh ps ms fs
def Tx.same(h:Tx H d lf W ps ms fs)(s:NV H H'):Tx H' d lf W ps ms fs:=⟨h.t.same s,h.f.same s,h.w24,h.G⟩
inductive vT(vs:TQ)(H:Hp)(Q:VK)(Z3:XK):Prop
 |mk(v l lf L fs st:_)(b:Bool)(n:Nat):vs=[v,.ref l,.ref lf]->Qc H b n v->H l=some (.lst (al L))->Qg H lf fs->cw L st fs b n->Q (.str (eX L fs b n)) H->vT vs H Q Z3
inductive zR(m:Nat)(vs:TQ)(H:Hp)(Q:VK):Prop
 |mk(v d lf W ps ms fs e:_):vs=[v,.ref d,.ref lf]->Pd H e v->Tx H d lf W ps ms fs->m<=3->aR W ps ms fs m e->(∀H',NV H H'->Q (.str (S (au (cU (dj ps ms fs e))))) H')->zR m vs H Q
def vU :Nat->Sp
 |0=>nj
 |m+1=>fun vs H Q _=>zR m vs H Q
variable{n:Nat}
def zS{H:Hp}{lf:Ts}{fs:TM}{z st:Str}(h:Qg H lf fs)(e:fs[n]?=some (z,st)):∃us pf,H lf=some (.lst us)/\us[n]?=some (.ref pf)/\H pf=some (.tup [.str z,.str st]):=by
 obtain⟨us,e1,hp⟩:=h;obtain⟨u,hu,pf,rfl,U3⟩:=rM hp e;exact⟨us,pf,e1,hu,U3⟩
section
def Hi:av [SW,Sl,R7] [SW,Sl,R7] (ak lV):=cV zk
variable{fd:TB}{f:Ts}
def Ff(F:Ob K "_law_sel_text" "_law_sel_text" lV f fd):NZ P w K mg base bZ 1 f fd [SW,Sl,R7] vT:=by
 have ZZ:=Hi
 walk_at "o"
 ·obtain⟨v,l,lf,L,fs,st,b,n,rfl,⟨sq,rfl,hq⟩,hl,hF,hS,q⟩:=h;refine⟨_,af (aQ (ap aW (ax aJ (pv 0) ah) ai) (aj (aq (ax aP (pv 1) (ax aJ (pv 0) ah)))) aB)
   (aj (aq (ax aJ (ax aP (pv 2) (ax aJ (pv 0) ah)) ah))),?_⟩
  refine⟨_,rfl,sq,_,_,_,rfl,rfl,NY.of hq,bu,rfl,_,rfl,?_⟩;unfold cw at hS;unfold eX at q;cases b with
  |true=>
   rw[g_ rfl]at hS q;obtain⟨z,hz⟩:=hS;rw[fq hz]at q;obtain⟨us,pf,e1,e2,e3⟩:=zS hF hz;refine be zk ⟨_,rfl,_,rfl,sq,_,_,_,rfl,rfl,NY.of hq,cI,lf,_,_,_,rfl,rfl,N0.of e1,aU e2,pf,_,_,_,rfl,rfl,NY.of e3,bu,q⟩
  |false=>
   rw[f_ zd]at hS q;rw[Kv,J1 hS]at q;refine bD (b_ rfl) ⟨_,rfl,_,rfl,sq,_,_,_,rfl,rfl,NY.of hq,cI,l,_,_,_,rfl,rfl,N0.of hl,aU (v:=.str L[n]) (by unfold al;rw[Kl,J1 hS];rfl),q⟩
def Hj:av [Ti,R5,R7] [Ti,R5,R7] (ak jO):=cV zk
def CB:∀o∈Oi,o≠("number":Str)/\o≠("field":Str)/\o≠(R9:Str)/\o≠(Sc:Str)/\o≠("cell":Str):=by decide +kernel
def p7{n m:Nat}(F:Ob K "_law_expr_text" "_law_expr_text" jO f fd)(B:Bl mg)(ST:Fn P w K mg base "_law_sel_text" 1 [SW,Sl,R7] vT)(EX:Fn P w K mg base "_law_expr_text" n [Ti,R5,R7] (vU m))(hn:1<=n):NZ P w K mg base bZ (n+1) f fd [Ti,R5,R7] (vU (m+1)):=by
 have ZZ:=Hj
 walk_at "o"
 ·obtain⟨v,d,lf,W,ps,ms,fs,e,rfl,hV,hX,Y1,hE,q⟩:=h;have hu:=eY hr;have LU:N1 1 _:=hr.mono zo;walk_at "v"
  have hxo:=cZ hX.G hE;have hln:=bG (fe hX.w24 hxo);have hxl:=cM hxo;have h32:2^(m+2)<=32:=Kx (KS zd (by lia:m+2<=5)) zd;refine⟨_,af (aQ (ap aW (ax aJ (pv 0) ah) ai) (aj (aq (aV ej (by rfl) B.str cH (aa (ax aJ (pv 0) ah) ac)))) aB)
   (af (aQ (ap aW (ax aJ (pv 0) ah) ai) (aj (aq (ax aJ (ax aP (pv 2) (ax aJ (pv 0) ah)) ah))) aB)
   (af (aQ (PW.pt (dP (ap aW (ax aJ (pv 0) ah) ai) (c8 (ap aW (ax aJ (pv 0) ah) ai))))
    (aj (aq (ar ST LU rfl (aa (ax aJ (pv 0) ah) (aa (aZ hu (pv 1) (aA aH (ax aJ (pv 0) ah) ai)) (aa (pv 2) ac)))))) aB)
   (af (aQ (ap aW (ax aJ (pv 0) ah) ai) (aj (aq (aA aH (aA aH ai (ar EX hr rfl (aa (ax aJ (pv 0) ah) (aa (pv 1) (aa (pv 2) ac))))) ai))) aB)
   (aj (aq (cu KR KY KW eB ai (aa (aT (aa ai (aa (ar EX hr rfl (aa (ax aJ (pv 0) ah) (aa (pv 1) (aa (pv 2) ac)))) (aa (ax aJ (pv 0) ah) (aa (ar EX hr rfl (aa (ax aJ (pv 0) ah) (aa (pv 1) (aa (pv 2) ac)))) (aa ai ac)))))) ac))))))),?_⟩
  have selc:∀(st:Str)(p:Ts)(u:V)(b:Bool)(i:Nat),(st=R9\/st=Sc)->H p=some (.tup [.str st,u])->Qc H b i u->cw (fP ps ms st) st fs b i->(∀H',NV H H'->Q (.str (eX (fP ps ms st) fs b i)) H')->∃l,Oz H d (.str (st++"s")) (some (.ref l))/\H l=some (.lst (al (fP ps ms st))):=fun st p u b i M' _ _ _ _=>iQ hX.t M';cases e with
  |num i=>
   obtain⟨p,rfl,hp⟩:=hV;have hi:i<2^W:=by cases m<;>simpa[aR]using hE
   have hi25:i<2^25:=by have:=Jc hX.w24 hi;have:2^W<=2^24:=KS zd hX.w24;lia
   walk_at "s";refine⟨_,rfl,p,_,_,_,rfl,rfl,NY.of hp,cI,_,rfl,ic hi25,?_⟩;have:=q H (NV.refl _);have e1:au (cU (dj ps ms fs (.num i)))=cp (toString (i:Int):Str):=rfl;rw[e1,fL]at this;exact this
  |fld j=>
   obtain⟨p,rfl,hp⟩:=hV;have h':∃z:Str,fs[j]?=some (z,("number":Str)):=by cases m<;>simpa[aR]using hE
   obtain⟨z,hz⟩:=h';obtain⟨us,pf,e1,e2,e3⟩:=zS hX.f hz;walk_at "q";walk_at "s";refine⟨_,rfl,_,rfl,p,_,_,_,rfl,rfl,NY.of hp,cI,lf,_,_,_,rfl,rfl,N0.of e1,aU e2,pf,_,_,_,rfl,rfl,NY.of e3,bu,?_⟩;have:=q H (NV.refl _);have e4:au (cU (dj ps ms fs (.fld j)))=cp (zK fs j):=rfl;rw[e4,fL,fq hz]at this;exact this
  |pl b i=>
   obtain⟨p,u,rfl,hp,hs⟩:=hV;have h':cw ps R9 fs b i:=by cases m<;>simpa[aR]using hE
   walk_at "q";walk_at "q";refine⟨_,rfl,p,_,_,_,rfl,rfl,NY.of hp,bu,rfl,_,rfl,bD (b_ rfl) (im ?_)⟩;obtain⟨l,dg,el⟩:=iQ hX.t (.inl rfl);refine⟨_,rfl,p,_,_,_,rfl,rfl,NY.of hp,cI,_,rfl,_,rfl,p,_,_,_,rfl,rfl,NY.of hp,bu,_,_,rfl,rfl,zk,d,_,rfl,dg,_,rfl,u,l,lf,_,fs,R9,b,i,rfl,hs,el,hX.f,by rw[cQ];exact h',?_⟩;have:=q H (NV.refl _);have e4:au (cU (dj ps ms fs (.pl b i)))=cp (eX ps fs b i):=rfl;rw[e4,fL]at this;rw[cQ];exact this
  |mk b i=>
   obtain⟨p,u,rfl,hp,hs⟩:=hV;have h':cw ms Sc fs b i:=by cases m<;>simpa[aR]using hE
   walk_at "q";walk_at "q";walk_at "q";walk_at "s";obtain⟨l,dg,el⟩:=iQ hX.t (.inr rfl);refine⟨_,rfl,p,_,_,_,rfl,rfl,NY.of hp,cI,_,rfl,_,rfl,p,_,_,_,rfl,rfl,NY.of hp,bu,_,_,rfl,rfl,zk,d,_,rfl,dg,_,rfl,u,l,lf,_,fs,Sc,b,i,rfl,hs,el,hX.f,by rw[di];exact h',?_⟩;have:=q H (NV.refl _);have e4:au (cU (dj ps ms fs (.mk b i)))=cp (eX ms fs b i):=rfl;rw[e4,fL]at this;rw[di];exact this
  |cell e=>
   obtain⟨p,u,rfl,hp,hu'⟩:=hV;cases m with
   |zero=>simp[aR]at hE
   |succ m=>
    have VN:aR W ps ms fs m e:=by simpa[aR]using hE
    have hl1:=bG (fe hX.w24 (cZ hX.G VN));have Y2:=cM (cZ hX.G VN);have h16:2^(m+2)<=32:=Kx (KS zd (by lia:m+2<=5)) zd;walk_at "q";walk_at "q";walk_at "q";walk_at "q";walk_at "s";refine⟨_,rfl,p,_,_,_,rfl,rfl,NY.of hp,cI,_,rfl,_,rfl,u,d,lf,W,ps,ms,fs,e,rfl,hu',hX,zo,VN,fun H1 s1=>?_⟩;refine⟨_,_,e_ V.str CA.1,rfl,by rw[aG,aG];simp;lia,?_⟩;rw[bJ];refine⟨_,_,rfl,e_ V.str CA.2,by rw[aG,aG];simp;lia,?_⟩;rw[bJ];have:=q H1 s1;have e4:au (cU (dj ps ms fs (.cell e)))=[91,32]++au (cU (dj ps ms fs e))++[32,93]:=(on _ (mG _)).symm;rw[e4]at this;exact this
  |two o x y=>
   obtain⟨p,u,t,rfl,hp,hux,Xo⟩:=hV;cases m with
   |zero=>simp[aR]at hE
   |succ m=>
    have VN:o∈Oi/\aR W ps ms fs m x/\aR W ps ms fs m y:=by simpa[aR]using hE
    obtain⟨o1,o2,o3,o4,o5⟩:=CB o VN.1;have ne:∀z:Str,o≠z->decide (V.str o=V.str z)=false:=fun z h=>d_ fun e=>h (V.str.inj e);have hl1:=bG (fe hX.w24 (cZ hX.G VN.2.1));have Y2:=cM (cZ hX.G VN.2.1);have Yk:=bG (fe hX.w24 (cZ hX.G VN.2.2));have hl4:=cM (cZ hX.G VN.2.2);have h16:2^(m+2)<=32:=Kx (KS zd (by lia:m+2<=5)) zd;have hlo:(cp o).length<=8:=(OH.sign (rW VN.1)).le;refine⟨_,rfl,p,_,_,_,rfl,rfl,NY.of hp,bu,rfl,_,rfl,be (ne _ o1) ?_⟩;refine⟨_,rfl,p,_,_,_,rfl,rfl,NY.of hp,bu,rfl,_,rfl,be (ne _ o2) ?_⟩;refine⟨_,rfl,p,_,_,_,rfl,rfl,NY.of hp,bu,rfl,_,rfl,be (ne _ o3) ?_⟩;refine⟨_,rfl,p,_,_,_,rfl,rfl,NY.of hp,bu,rfl,_,rfl,be (ne _ o4) ?_⟩;refine⟨_,rfl,p,_,_,_,rfl,rfl,NY.of hp,bu,rfl,_,rfl,be (ne _ o5) ?_⟩;refine⟨rfl,_,rfl,p,_,_,_,rfl,rfl,NY.of hp,cI,_,rfl,_,rfl,u,d,lf,W,ps,ms,fs,x,rfl,hux,hX,zo,VN.2.1,fun H1 s1=>?_⟩;refine⟨_,rfl,p,_,_,_,rfl,rfl,NY.of (s1 _ _ hp),bu,?_⟩;refine⟨_,rfl,p,_,_,_,rfl,rfl,NY.of (s1 _ _ hp),jU,_,rfl,_,rfl,t,d,lf,W,ps,ms,fs,y,rfl,Xo.kt (ao s1),hX.same s1,zo,VN.2.2,fun H2 s2=>?_⟩;refine⟨N5,fun l3 n3=>?_⟩;have s3:=ag (o:=.lst [.str "(",.str (S (au (cU (dj ps ms fs x)))),.str o,.str (S (au (cU (dj ps ms fs y)))),.str ")"]) n3;have e3:(aI H2 l3 (.lst [.str "(",.str (S (au (cU (dj ps ms fs x)))),.str o,.str (S (au (cU (dj ps ms fs y)))),.str ")"])) l3=some (.lst (dc [cp "(",au (cU (dj ps ms fs x)),cp o,au (cU (dj ps ms fs y)),cp ")"])):=by
     rw[ae];unfold dc;simp only[Kd,Li,fL]
    refine⟨[32],l3,_,e_ V.str pP,rfl,N0.of e3,?_,?_⟩
    ·have c1:(cp "(").length=1:=by decide +kernel
     have c2:(cp ")").length=1:=by decide +kernel
     simp only[Kd,Li,Lz,List.sum_nil,JX,Ke];lia
    ·have:=q _ ((s1.trans s2).trans s3);have e4:au (cU (dj ps ms fs (.two o x y)))=TK.jn [32] [cp "(",au (cU (dj ps ms fs x)),cp o,au (cU (dj ps ms fs y)),cp ")"]:=(zQ o _ _ (mG _) (mG _)).symm;rw[e4]at this;exact this
end
end L3
namespace L2
open PySem PySem.Spec PyProof.Rows
section
def zT:fv X (binaryOp .Mult) (fun x y H Q=>∃(l:TJ)(b:Bool),x=.str (S l)/\y=.int (if b=true then 1 else 0)/\l.length<=1000/\Q (.str (S (if b=true then l else []))) H):=by
 walk_at "t";obtain⟨l,b,rfl,rfl,hn,q⟩:=h;obtain⟨t,rfl⟩:=rx;obtain⟨t2,rfl⟩:=ry;have hl:(S l).length=l.length:=aG l;refine PySem.P.mul_str ?_ ?_ ?_ ?_
 ·cases b<;>simp
 ·intro _ _;rw[hl];cases b
  ·intro Ua;simp at*
  ·intro Ua;first|(simp at*;done)|(simp at*;lia)
 ·intro _ _;rw[hl];unfold Builtin.Str.tooLong;have sz:(10000:Nat)<=sizeLine:=by decide
  cases b<;>simp<;>lia
 ·cases b with
  |false=>
   rw[g_ (by simp)];refine⟨?_,⟨.str (S []),H,I.tok _,⟨_,rfl⟩,q⟩⟩;decide
  |true=>
   rw[f_ (by simp),g_ (by simp)];exact⟨.str (S l),H,I.tok _,⟨t,rfl⟩,q⟩
end
end L2
namespace L3
open PySem L2
def Jd:Tt->Bool
 |.mk _ _=>true
 |_=>false
def DH(t:Tt):Str:=if Jd t=true then Sc else R9
def Fg(t:Tt):decide (V.str (GY t)=V.str S3)=ui t:=by
 cases t with
 |top b n=>exact b_ rfl
 |pl b n=>exact d_ fun e=>absurd (V.str.inj e) (by show(R9:Str)≠S3;decide +kernel)
 |mk b n=>exact d_ fun e=>absurd (V.str.inj e) (by show(Sc:Str)≠S3;decide +kernel)
def CC(t:Tt):decide (V.str (GY t)=V.str Sc)=Jd t:=by
 cases t with
 |top b n=>exact d_ fun e=>absurd (V.str.inj e) (by show(S3:Str)≠Sc;decide +kernel)
 |pl b n=>exact d_ fun e=>absurd (V.str.inj e) (by show(R9:Str)≠Sc;decide +kernel)
 |mk b n=>exact b_ rfl
def Hk(t:Tt):qJ ([V.str R9,.str Sc]:TQ) (if Jd t=true then 1 else 0)=some (.str (DH t)):=by
 cases t<;>first|exact bu|exact cI
def DI(t:Tt):DH t=R9\/DH t=Sc:=by cases t<;>first|exact .inl rfl|exact .inr rfl
def Hl(h:Ct ps ms fs t):cw (fP ps ms (DH t)) (DH t) fs (Dx t).1 (Dx t).2/\eX (fP ps ms (DH t)) fs (Dx t).1 (Dx t).2=qy ps ms fs t:=by
 cases t with
 |top b n=>exact⟨by show cw (fP ps ms R9) _ fs b n;rw[cQ];exact h,by show eX (fP ps ms R9) fs b n=_;rw[cQ];rfl⟩
 |pl b n=>exact⟨by show cw (fP ps ms R9) _ fs b n;rw[cQ];exact h,by show eX (fP ps ms R9) fs b n=_;rw[cQ];rfl⟩
 |mk b n=>exact⟨by show cw (fP ps ms Sc) _ fs b n;rw[di];exact h,by show eX (fP ps ms Sc) fs b n=_;rw[di];rfl⟩
def zU(t:Bool):TJ:=if t=true then [116,111,112,32]else []
def rY(t:Bool)(z:Str):zU t++cp z=au (du t z):=by
 cases t with
 |true=>
  show [116,111,112,32]++cp z=au [(S3:Str),z];rw[bE (by simp),cS];have:cp (S3:Str)=[116,111,112]:=by decide +kernel
  rw[this];rfl
 |false=>rfl
def zV(t:Bool)(z:Str):du t z≠[]:=by cases t<;>simp[du]
def mH(b:Bd):db b≠[]:=by cases b<;>simp[db]
def zW(t:Bool)(z:Str)(y n:Bd):[123,32,105,102,32]++au (du t z)++[32]++au (db y)++[32,101,108,115,101,32]++au (db n)++[32,125]=au (db (.ite t z y n)):=by
 have e:db (.ite t z y n)=("{":Str)::(Tn:Str)::(du t z++(db y++(S9:Str)::(db n++[("}":Str)]))):=rfl;rw[e,bE (by simp),bE (by simp[mH]),dU (zV t z) (by simp[mH]),dU (mH y) (by simp),bE (by simp),dU (mH n) (by simp),cS];have e1:cp ("{":Str)=[123]:=by decide +kernel
 have e2:cp (Tn:Str)=[105,102]:=by decide +kernel
 have e3:cp (S9:Str)=[101,108,115,101]:=by decide +kernel
 have e4:cp ("}":Str)=[125]:=by decide +kernel
 rw[e1,e2,e3,e4];simp
def Fh(g:Gs):vA g≠[]:=by cases g<;>simp[vA]
def mI(g:Gs):[115,101,116,32]++au (vA g)++[32,61,32]++au (cU (tQ g))++[32,59]=au (("set":Str)::jf g):=by
 rw[tR,bE (by simp),dU (Fh g) (by simp),bE (by simp),dU (mG _) (by simp),cS];have e1:cp ("set":Str)=[115,101,116]:=by decide +kernel
 have e2:cp ("=":Str)=[61]:=by decide +kernel
 have e3:cp (";":Str)=[59]:=by decide +kernel
 rw[e1,e2,e3];simp
def oo:∀s:List Gs,bQ s=(s.map fun g=>("set":Str)::jf g).flatten
 |[]=>rfl
 |g::r=>by rw[Kd,LH,<-oo r];rfl
def Fi(e:En):gA e≠[]:=by cases e<;>simp[gA]
def ft(s:List Gs):List (TJ):=cp "{"::s.map fun g=>au (("set":Str)::jf g)
def xk(s:List Gs)(e:En):TK.jn [32] (ft s++[au (gA e),cp "}"])=au (db (.leaf s e)):=by
 have h:=fQ ([("{":Str)]::(s.map fun g=>("set":Str)::jf g)++[gA e,[("}":Str)]]) (by
  intro g hg;rcases Ko.mp hg with hg|hg
  ·rcases J0.mp hg with rfl|hg
   ·simp
   ·obtain⟨g0,_,rfl⟩:=Kr.mp hg;simp
  ·simp only[J0,Kc,l_]at hg;rcases hg with rfl|rfl
   ·exact Fi e
   ·simp)
 have e1:([("{":Str)]::(s.map fun g=>("set":Str)::jf g)++[gA e,[("}":Str)]]).flatten=db (.leaf s e):=by
  rw[List.flatten_append,LH,<-oo];simp[db]
 rw[e1]at h;rw[<-h];unfold ft;simp only[Kb,Kd,Li,K2];rfl
def JK:Ee->Str
 |.w0 s=>s
 |.fault _=>Sk
 |.go s _=>s
def JL(fs:TM):Ee->Str
 |.w0 s=>s
 |.fault _=>Sk
 |.go s j=>S (au [s,zK fs j])
inductive zX(m:Nat)(vs:TQ)(H:Hp)(Q:VK):Prop
 |mk(v d lf W ps ms fs dd:_)(m0:Nat):vs=[v,.ref d,.ref lf]->Pp H dd v->Tx H d lf W ps ms fs->m0<=3->m<=3->eD W ps ms fs m0 m dd->(∀H',NV H H'->Q (.str (S (au (db (js ps ms fs dd))))) H')->zX m vs H Q
def vV :Nat->Sp
 |0=>nj
 |m+1=>fun vs H Q _=>zX m vs H Q
def kR(h:aR W ps ms fs m e)(hn:m<=n):aR W ps ms fs n e:=by
 induction hn with
 |refl=>exact h
 |step _ ih=>exact kN ih
def jZ(gs:List Gs)(g:Gs):ft (gs++[g])=ft gs++[au (("set":Str)::jf g)]:=by unfold ft;simp
def gQ(gs:List Gs):(ft gs).length=gs.length+1:=by unfold ft;simp
def ff:(("{ if ":Str)=S [123,32,105,102,32])/\((" else ":Str)=S [32,101,108,115,101,32])/\((" }":Str)=S [32,125])/\(("top ":Str)=S [116,111,112,32])/\(("set ":Str)=S [115,101,116,32])/\((" = ":Str)=S [32,61,32])/\((" ;":Str)=S [32,59]):=by decide +kernel
section
def OC:av [Si,R5,R7,"_law_test","_law_word","_law_yes",S0,Th,"_law_aim","_law_end_here"] [Si,R5,R7] (ak jP):=cV zk
inductive uo(dd:Dd)(v:V)(d:Ts)(lf:Ts)(fs:TM)(H:Hp)(ps:TH)(ms:TH)(σ:St)(H':Hp):Prop
 |mk(lw:Ts)(ss:List Sd)(e:Ee)(v7 v8:Option V):dd=.leaf ss e->σ=[some v,some (.ref d),some (.ref lf),none,none,none,some (.ref lw),v7,v8,some (.str (JL fs e))]->NV H H'->H' lw=some (.lst (dc (ft (ss.map (dk ps ms fs)))))->uo dd v d lf fs H ps ms σ H'
inductive zY(dd:Dd)(v:V)(d:Ts)(lf:Ts)(fs:TM)(H:Hp)(ps:TH)(ms:TH)(σ:St)(H':Hp):Prop
 |mk(lw:Ts)(ss:List Sd)(e:Ee)(v7 v8:Option V):dd=.leaf ss e->σ=[some v,some (.ref d),some (.ref lf),none,none,none,some (.ref lw),v7,v8,some (.str (S (au (gA (gz fs e)))))]->NV H H'->H' lw=some (.lst (dc (ft (ss.map (dk ps ms fs)))))->zY dd v d lf fs H ps ms σ H'
def p8(F:Ob K "_law_deed_text" "_law_deed_text" jP f fd)(B:Bl mg)(ST:Fn P w K mg base "_law_sel_text" 1 [SW,Sl,R7] vT)(EX:Fn P w K mg base "_law_expr_text" n [Ti,R5,R7] (vU 4))(DT:Fn P w K mg base "_law_deed_text" n [Si,R5,R7] (vV m))(hn:1<=n):NZ P w K mg base bZ (n+1) f fd [Si,R5,R7] (vV (m+1)):=by
 have ZZ:=OC
 walk_at "o"
 ·obtain⟨v,d,lf,W,ps,ms,fs,dd,m0,rfl,hV,hX,Wu,Y1,hD,q⟩:=h;have hu:=eY hr;have LU:N1 1 _:=hr.mono zo;have sz:(200000:Nat)<=sizeLine:=by decide
  have hbo:=om hX.G Wu hD (J2 _);have Xx:=jk hbo;have hln:=bG (oj hX.w24 hbo);have h8:2^m<=8:=Kx (KS zd Y1) zd;have joinX:True:=trivial;refine⟨_,af (aQ (ap aW (ax aJ (pv 0) ah) ai)
    (af (bL (i:=3) OC.nd (ax aJ (pv 0) ah))
    (af (bL (i:=4) OC.nd (aA zT ai (aV fB (by rfl) B.int K8 (aa (cq aW (ax aJ (pv 3) ah) ai) ac))))
    (af (bL (i:=4) OC.nd (aA aH (pv 4) (ar ST LU rfl (aa (ax aJ (pv 3) ah) (aa (aZ hu (pv 1) (aA aH (ax aP (aT (aa ai (aa ai ac))) (aV fB (by rfl) B.int K8 (aa (cq aW (ax aJ (pv 3) ah) ai) ac))) ai)) (aa (pv 2) ac))))))
    (af (bL (i:=5) OC.nd (ar DT hr rfl (aa (ax aJ (pv 0) ah) (aa (pv 1) (aa (pv 2) ac)))))
    (aj (aq (aA aH (aA aH (aA aH (aA aH (aA aH (aA aH ai (pv 4)) ai) (pv 5)) ai) (ar DT hr rfl (aa (ax aJ (pv 0) ah) (aa (pv 1) (aa (pv 2) ac))))) ai))))))) aB)
   (af (bL (i:=6) OC.nd (aT (aa ai ac)))
   (af (dB h_ rfl (iz (ax aJ (pv 0) ah)) (cG (i:=7) OC.nd)
    (af (aQ (ap aW (ax aJ (pv 7) ah) ai) (aj (bL (i:=8) OC.nd (aA aH (aA aH ai (ar EX hr rfl (aa (ax aJ (pv 7) ah) (aa (pv 1) (aa (pv 2) ac))))) ai)))
      (aj (bL (i:=8) OC.nd (ar ST LU rfl (aa (ax aJ (pv 7) ah) (aa (aZ hu (pv 1) (aA aH (ax aJ (pv 7) ah) ai)) (aa (pv 2) ac)))))))
    (aj (aM (cu Kp Kk Kj bz (pv 6) (aa (aA aH (aA aH (aA aH (aA aH ai (pv 8)) ai) (ar EX hr rfl (aa (ax aJ (pv 7) ah) (aa (pv 1) (aa (pv 2) ac))))) ai) ac))))))
   (af (bL (i:=9) OC.nd (ax aJ (ax aJ (pv 0) ah) ah))
   (bf (uo dd v d lf fs H ps ms) (aQ (PW.pt (dP (ap aW (pv 9) ai) (c8 (ap aW (pv 9) ai)))) (aj (bL (i:=9) OC.nd (aA aH (aA aH (pv 9) ai) (ax aJ (ax aP (pv 2) (ax aJ (ax aJ (pv 0) ah) ah)) ah)))) aB)
   (bf (zY dd v d lf fs H ps ms) (aQ (ap aW (pv 9) ai) (aj (bL (i:=9) OC.nd (aA aH (aA aH (pv 9) ai) (ax aJ (ax aJ (pv 0) ah) ah)))) aB)
   (aj (aq (cu KR KY KW eB ai (aa (aA dL (pv 6) (aT (aa (pv 9) (aa ai ac)))) ac))))))))),?_⟩
  cases dd with
  |ite t y z=>
   cases m with
   |zero=>simp[eD]at hD
   |succ m=>
    obtain⟨Xp,hyo,hzo⟩:=hD;obtain⟨p,u,a,bb,rfl,hp,⟨pt,ut,rfl,hpt,U2⟩,ha,hb⟩:=hV;obtain⟨Vm,hsn⟩:=Hl Xp;have by1:=om hX.G Wu hyo (J2 _);have bz1:=om hX.G Wu hzo (J2 _);have ly:=bG (oj hX.w24 by1);have lz:=bG (oj hX.w24 bz1);have ly2:=jk by1;have lz2:=jk bz1;have h4:2^m<=8:=Kx (KS zd (by lia:m<=3)) zd;have hnz:cm (qy ps ms fs t):=by
     cases t with
     |top b n=>exact cF hX.G.p hX.G.f Xp
     |pl b n=>exact cF hX.G.p hX.G.f Xp
     |mk b n=>exact cF hX.G.m hX.G.f Xp
    have lzn:=hnz.1.len;have ltp:(zU (ui t)).length<=4:=by cases ui t<;>decide
    walk_at "s";refine⟨_,rfl,p,_,_,_,rfl,rfl,NY.of hp,cI,?_⟩;refine⟨_,rfl,pt,_,_,_,rfl,rfl,NY.of hpt,bu,rfl,.inr ⟨_,rfl,?_⟩⟩;refine⟨[116,111,112,32],ui t,e_ V.str ff.2.2.2.1,e_ (fun b:Bool=>V.int (if b=true then 1 else 0)) (Fg t),zd,?_⟩;refine⟨_,rfl,_,rfl,pt,_,_,_,rfl,rfl,NY.of hpt,cI,_,rfl,N5,fun ll nll=>?_⟩;generalize zz:aI H ll _=H1;have⟨s1,e1⟩:=nw nll zz;clear zz;obtain⟨l,dg,el⟩:=iQ (hX.t.same s1) (DI t);refine⟨_,rfl,pt,_,_,_,rfl,rfl,NY.of (s1 _ _ hpt),bu,rfl,.inr ⟨_,rfl,ll,_,_,_,rfl,rfl,N0.of e1,by rw[CC];exact Hk t,?_⟩⟩;have hsl2:(DH t).length+("s":Str).length<=sizeLine:=by rcases DI t with e|e<;>rw[e]<;>decide +kernel
    refine⟨_,_,rfl,rfl,hsl2,d,_,rfl,dg,_,rfl,ut,l,lf,_,fs,DH t,_,_,rfl,U2.kt (ao s1),el,hX.f.same s1,Vm,?_⟩;rw[hsn];have ew:S (zU (ui t))++qy ps ms fs t=S (au (du (ui t) (qy ps ms fs t))):=by
     have:qy ps ms fs t=S (cp (qy ps ms fs t)):=(fL _).symm;rw[this,bJ,rY,fL]
    have zl:(qy ps ms fs t).length=(cp (qy ps ms fs t)).length:=by show(qy ps ms fs t).cps.size=_;unfold cp;simp
    refine⟨_,_,rfl,rfl,?_,?_⟩
    ·have:(S (zU (ui t))).length<=4:=by rw[aG];exact ltp
     show(S (zU (ui t))).length+(qy ps ms fs t).length<=sizeLine;lia
    have lt2:(au (du (ui t) (qy ps ms fs t))).length<=12:=by
     rw[<-rY,JU];lia
    have ew':V.str (S (if ui t=true then [116,111,112,32]else [])++qy ps ms fs t)=V.str (S (au (du (ui t) (qy ps ms fs t)))):=e_ V.str ew;rw[ew'];generalize Md:au (du (ui t) (qy ps ms fs t))=lt at*;refine⟨_,rfl,p,_,_,_,rfl,rfl,NY.of (s1 _ _ hp),jU,_,rfl,_,rfl,a,d,lf,W,ps,ms,fs,y,m0,rfl,ha.kt (ao s1),hX.same s1,Wu,zo,hyo,fun H2 s2=>?_⟩;have VF:=s1.trans s2;refine⟨_,rfl,_,_,e_ V.str ff.1,rfl,by rw[aG,aG];simp;lia,?_⟩;rw[bJ];refine⟨_,_,rfl,e_ V.str pP,by rw[aG,aG];simp;lia,?_⟩;rw[bJ];refine⟨_,rfl,_,_,rfl,rfl,by rw[aG,aG];simp;lia,?_⟩;rw[bJ];refine⟨_,_,rfl,e_ V.str ff.2.1,by rw[aG,aG];simp;lia,?_⟩;rw[bJ];refine⟨_,rfl,p,_,_,_,rfl,rfl,NY.of (VF _ _ hp),GW,_,rfl,_,rfl,bb,d,lf,W,ps,ms,fs,z,m0,rfl,hb.kt (ao VF),hX.same VF,Wu,zo,hzo,fun H3 s3=>?_⟩;refine⟨_,_,rfl,rfl,by rw[aG,aG];simp;lia,?_⟩;rw[bJ];refine⟨_,_,rfl,e_ V.str ff.2.2.1,by rw[aG,aG];simp;lia,?_⟩;rw[bJ];have:=q H3 (VF.trans s3);have e4:au (db (js ps ms fs (.ite t y z)))=[123,32,105,102,32]++lt++[32]++au (db (js ps ms fs y))++[32,101,108,115,101,32]++au (db (js ps ms fs z))++[32,125]:=by
     rw[<-Md];exact(zW _ _ _ _).symm
    rw[e4]at this;exact this
  |leaf ss e=>
   obtain⟨p,qs,us,u,rfl,hp,hq,L9,YU⟩:=hV;have h':ss.length<=4/\(ss.filter Sd.isCell).length<=1/\(∀g∈ss,eU W ps ms fs m0 g)/\ko fs e:=by cases m<;>exact hD
   have hen:=DG hX.G.f h'.2.2.2;have lus:=L9.length;walk_at "q";refine⟨N5,fun lw Z_=>?_⟩;have s1:=ag (o:=.lst [V.str "{"]) Z_;have e1:(aI H lw (.lst [V.str "{"])) lw=some (.lst (dc (ft []))):=by
    rw[ae];unfold dc ft;simp only[Kd,Li,fL]
   generalize aI H lw (.lst [V.str "{"])=H1 at*;refine⟨_,rfl,p,_,_,_,rfl,rfl,NY.of (s1 _ _ hp),cI,qs,rfl,⟨_,NY.of (s1 _ _ hq)⟩,?_⟩;refine kr (K:=K) (a:=qs) (xs:=us) (fun i σ H'=>∃v7 v8:Option V,σ=[some (.ref p),some (.ref d),some (.ref lf),none,none,none,some (.ref lw),v7,v8,none]/\NV H H'/\H' lw=some (.lst (dc (ft ((ss.take i).map (dk ps ms fs)))))) ⟨_,_,rfl,s1,e1⟩ (fun i σ H' _⟨_,_,_,s',_⟩=>NY.of (s' _ _ hq)) ?_ ?_
   ·rintro i x σ H2 hx ⟨v7,v8,rfl,s2,e2⟩;obtain⟨g,hg,W0⟩:=gq L9 hx;have Y8:=(JV.mp hx).1;have VL:=h'.2.2.1 g (Kg hg);cases g with
    |cell a ee=>
     obtain⟨p',uu,tt,rfl,TU,YT,YW⟩:=W0;have Zd:aR W ps ms fs 3 a:=kR VL.1 zo;have VX:aR W ps ms fs 3 ee:=kR VL.2 Wu;have la:=bG (fe hX.w24 (cZ hX.G Zd));have la2:=cM (cZ hX.G Zd);have le:=bG (fe hX.w24 (cZ hX.G VX));have le2:=cM (cZ hX.G VX);have h32:(2:Nat)^(3+2)=32:=by decide
     refine⟨_,rfl,p',_,_,_,rfl,rfl,NY.of (s2 _ _ TU),bu,rfl,_,rfl,bD (b_ rfl) ?_⟩;refine⟨_,rfl,p',_,_,_,rfl,rfl,NY.of (s2 _ _ TU),cI,_,rfl,_,rfl,uu,d,lf,W,ps,ms,fs,a,rfl,YT.kt (ao s2),hX.same s2,zd,Zd,fun H3 s3=>?_⟩;refine⟨_,_,e_ V.str CA.1,rfl,by rw[aG,aG];simp;lia,?_⟩;rw[bJ];refine⟨_,_,rfl,e_ V.str CA.2,by rw[aG,aG];simp;lia,?_⟩;rw[bJ];have eh:[91,32]++au (cU (dj ps ms fs a))++[32,93]=au (vA (dk ps ms fs (.cell a ee))):=on _ (mG _);have lh:(au (vA (dk ps ms fs (.cell a ee)))).length<=400:=by
      rw[<-eh,JU,JU];simp;lia
     rw[eh];refine⟨_,rfl,.inl ⟨rfl,_,N0.of (s3 _ _ e2)⟩,?_⟩;refine⟨_,rfl,_,_,e_ V.str ff.2.2.2.2.1,rfl,by rw[aG,aG];simp;lia,?_⟩;rw[bJ];refine⟨_,_,rfl,e_ V.str ff.2.2.2.2.2.1,by rw[aG,aG];simp;lia,?_⟩;rw[bJ];refine⟨_,rfl,p',_,_,_,rfl,rfl,NY.of ((s2.trans s3) _ _ TU),jU,_,rfl,_,rfl,tt,d,lf,W,ps,ms,fs,ee,rfl,YW.kt (ao (s2.trans s3)),hX.same (s2.trans s3),zd,VX,fun H4 s4=>?_⟩;refine⟨_,_,rfl,rfl,by rw[aG,aG];simp;lia,?_⟩;rw[bJ];refine⟨_,_,rfl,e_ V.str ff.2.2.2.2.2.2,by rw[aG,aG];simp;lia,?_⟩;rw[bJ];refine⟨lw,_,_,rfl,rfl,(s3.trans s4) _ _ e2,by rw[cY,gQ,JY,J9];lia,_,_,rfl,ci Z_ ((s2.trans s3).trans s4),?_⟩;rw[ae]
     congr 2
     rw[KE,hg];show _=dc (ft (List.map (dk ps ms fs) (ss.take i++[.cell a ee])));rw[Kb,Kd,Li,jZ,<-mI];unfold dc;rw[Kb];rfl
    |pl b n ee=>
     obtain⟨p',uu,tt,rfl,TU,YT,YW⟩:=W0;have VX:aR W ps ms fs 3 ee:=kR VL.2 Wu;have le:=bG (fe hX.w24 (cZ hX.G VX));have le2:=cM (cZ hX.G VX);have h32:(2:Nat)^(3+2)=32:=by decide
     obtain⟨l,dg,el⟩:=iQ (hX.t.same s2) (st:=R9) (by first|exact .inl rfl|exact .inr rfl);refine⟨_,rfl,p',_,_,_,rfl,rfl,NY.of (s2 _ _ TU),bu,rfl,_,rfl,be zk ?_⟩;refine⟨_,rfl,p',_,_,_,rfl,rfl,NY.of (s2 _ _ TU),cI,_,rfl,_,rfl,p',_,_,_,rfl,rfl,NY.of (s2 _ _ TU),bu,_,_,rfl,rfl,zk,d,_,rfl,dg,_,rfl,uu,l,lf,_,fs,R9,b,n,rfl,YT.kt (ao s2),el,hX.f.same s2,by rw[cQ];exact VL.1,?_⟩;rw[cQ];have nm:=(cF (st:=R9) hX.G.p hX.G.f VL.1).1.len;have lh:(au (vA (dk ps ms fs (.pl b n ee)))).length<=400:=by
      show(cp (eX _ fs b n)).length<=400;lia
     have s3:NV H2 H2:=NV.refl _;refine⟨_,rfl,.inl ⟨rfl,_,N0.of (s3 _ _ e2)⟩,?_⟩;refine⟨_,rfl,_,_,e_ V.str ff.2.2.2.2.1,e_ V.str (fL _).symm,by rw[aG,aG];simp;lia,?_⟩;rw[bJ];refine⟨_,_,rfl,e_ V.str ff.2.2.2.2.2.1,by rw[aG,aG];simp;lia,?_⟩;rw[bJ];refine⟨_,rfl,p',_,_,_,rfl,rfl,NY.of ((s2.trans s3) _ _ TU),jU,_,rfl,_,rfl,tt,d,lf,W,ps,ms,fs,ee,rfl,YW.kt (ao (s2.trans s3)),hX.same (s2.trans s3),zd,VX,fun H4 s4=>?_⟩;refine⟨_,_,rfl,rfl,by rw[aG,aG];simp;lia,?_⟩;rw[bJ];refine⟨_,_,rfl,e_ V.str ff.2.2.2.2.2.2,by rw[aG,aG];simp;lia,?_⟩;rw[bJ];refine⟨lw,_,_,rfl,rfl,(s3.trans s4) _ _ e2,by rw[cY,gQ,JY,J9];lia,_,_,rfl,ci Z_ ((s2.trans s3).trans s4),?_⟩;rw[ae]
     congr 2
     rw[KE,hg];show _=dc (ft (List.map (dk ps ms fs) (ss.take i++[.pl b n ee])));rw[Kb,Kd,Li,jZ,<-mI];unfold dc;rw[Kb];rfl
    |mk b n ee=>
     obtain⟨p',uu,tt,rfl,TU,YT,YW⟩:=W0;have VX:aR W ps ms fs 3 ee:=kR VL.2 Wu;have le:=bG (fe hX.w24 (cZ hX.G VX));have le2:=cM (cZ hX.G VX);have h32:(2:Nat)^(3+2)=32:=by decide
     obtain⟨l,dg,el⟩:=iQ (hX.t.same s2) (st:=Sc) (by first|exact .inl rfl|exact .inr rfl);refine⟨_,rfl,p',_,_,_,rfl,rfl,NY.of (s2 _ _ TU),bu,rfl,_,rfl,be zk ?_⟩;refine⟨_,rfl,p',_,_,_,rfl,rfl,NY.of (s2 _ _ TU),cI,_,rfl,_,rfl,p',_,_,_,rfl,rfl,NY.of (s2 _ _ TU),bu,_,_,rfl,rfl,zk,d,_,rfl,dg,_,rfl,uu,l,lf,_,fs,Sc,b,n,rfl,YT.kt (ao s2),el,hX.f.same s2,by rw[di];exact VL.1,?_⟩;rw[di];have nm:=(cF (st:=Sc) hX.G.m hX.G.f VL.1).1.len;have lh:(au (vA (dk ps ms fs (.mk b n ee)))).length<=400:=by
      show(cp (eX _ fs b n)).length<=400;lia
     have s3:NV H2 H2:=NV.refl _;refine⟨_,rfl,.inl ⟨rfl,_,N0.of (s3 _ _ e2)⟩,?_⟩;refine⟨_,rfl,_,_,e_ V.str ff.2.2.2.2.1,e_ V.str (fL _).symm,by rw[aG,aG];simp;lia,?_⟩;rw[bJ];refine⟨_,_,rfl,e_ V.str ff.2.2.2.2.2.1,by rw[aG,aG];simp;lia,?_⟩;rw[bJ];refine⟨_,rfl,p',_,_,_,rfl,rfl,NY.of ((s2.trans s3) _ _ TU),jU,_,rfl,_,rfl,tt,d,lf,W,ps,ms,fs,ee,rfl,YW.kt (ao (s2.trans s3)),hX.same (s2.trans s3),zd,VX,fun H4 s4=>?_⟩;refine⟨_,_,rfl,rfl,by rw[aG,aG];simp;lia,?_⟩;rw[bJ];refine⟨_,_,rfl,e_ V.str ff.2.2.2.2.2.2,by rw[aG,aG];simp;lia,?_⟩;rw[bJ];refine⟨lw,_,_,rfl,rfl,(s3.trans s4) _ _ e2,by rw[cY,gQ,JY,J9];lia,_,_,rfl,ci Z_ ((s2.trans s3).trans s4),?_⟩;rw[ae]
     congr 2
     rw[KE,hg];show _=dc (ft (List.map (dk ps ms fs) (ss.take i++[.mk b n ee])));rw[Kb,Kd,Li,jZ,<-mI];unfold dc;rw[Kb];rfl
   ·rintro σ H2 ⟨v7,v8,rfl,s2,e2⟩;rw[lus,Ky]at e2;have hE:∃pe r,u=.ref pe/\H pe=some (.tup (.str (JK e)::r)):=by
     cases e with
     |w0 s=>obtain⟨pe,a,b⟩:=YU;exact⟨pe,_,a,b⟩
     |fault z=>obtain⟨pe,a,b⟩:=YU;exact⟨pe,_,a,b⟩
     |go s j=>obtain⟨pe,a,b⟩:=YU;exact⟨pe,_,a,b⟩
    obtain⟨pe,re,rfl,hpe⟩:=hE;refine⟨_,rfl,p,_,_,_,rfl,rfl,NY.of (s2 _ _ hp),jU,pe,_,_,_,rfl,rfl,NY.of (s2 _ _ hpe),bu,?_⟩;refine⟨?_,?_⟩
    ·rintro σ H3 ⟨lw,ss',e',v7,v8,ed,rfl,s3,e3⟩;cases ed;refine⟨?_,?_⟩
     ·rintro σ H4 ⟨lw,ss',e',v7,v8,ed,rfl,s4,e4⟩;cases ed;have lnE:=bG (DD hen);have lnE2:=vK (gz fs e);refine⟨rfl,_,rfl,_,rfl,N5,fun l5 n5=>?_⟩;have s5:=ag (o:=.lst [.str (S (au (gA (gz fs e)))),.str "}"]) n5;have e5:(aI H4 l5 (.lst [.str (S (au (gA (gz fs e)))),.str "}"])) l5=some (.lst (dc [au (gA (gz fs e)),cp "}"])):=by
       rw[ae];unfold dc;simp only[Kd,Li,fL]
      generalize aI H4 l5 (.lst [V.str (S (au (gA (gz fs e)))),.str "}"])=H5 at*;refine⟨lw,l5,_,_,rfl,rfl,s5 _ _ e4,e5,by rw[cY,cY,gQ,JY];simp;lia,fun l6 n6=>?_⟩;have eT:dc (ft (ss.map (dk ps ms fs)))++dc [au (gA (gz fs e)),cp "}"]=dc (ft (ss.map (dk ps ms fs))++[au (gA (gz fs e)),cp "}"]):=by unfold dc;rw[Kb]
      rw[eT];have s6:=ag (o:=.lst (dc (ft (ss.map (dk ps ms fs))++[au (gA (gz fs e)),cp "}"]))) n6;refine⟨[32],l6,_,e_ V.str pP,rfl,N0.of ae,?_,?_⟩
      ·have hb:∀t∈ft (ss.map (dk ps ms fs))++[au (gA (gz fs e)),cp "}"],t.length<=1000:=by
        intro t ht;rcases Ko.mp ht with ht|ht
        ·rcases J0.mp ht with rfl|ht
         ·decide +kernel
         ·obtain⟨g0,W1,rfl⟩:=Kr.mp ht;obtain⟨g1,Y',rfl⟩:=Kr.mp W1;have hgk:=DF hX.G Wu (h'.2.2.1 g1 Y');have h1:=vJ hgk;have h2:=bG (zs:=("set":Str)::jf (dk ps ms fs g1)) (by
           intro z hz;rcases J0.mp hz with rfl|hz
           ·exact .word zk
           ·exact DC hX.w24 hgk z hz)
          rw[JX]at h2;lia
        ·simp only[J0,Kc,l_]at ht;rcases ht with rfl|rfl
         ·lia
         ·decide +kernel
       have h1:=iO 1000 _ hb;have h2:(ft (ss.map (dk ps ms fs))++[au (gA (gz fs e)),cp "}"]).length<=7:=by
        rw[JU,gQ,JY];simp;lia
       simp only[JX,Ke];lia
      ·have:=q _ ((s4.trans s5).trans s6);have e7:au (db (js ps ms fs (.leaf ss e)))=TK.jn [32] (ft (ss.map (dk ps ms fs))++[au (gA (gz fs e)),cp "}"]):=(xk _ _).symm;rw[e7]at this;exact this
     ·cases e with
      |w0 s=>
       have hs:s∈([SJ,SK,SN]:TH):=h'.2.2.2;have Ma:s≠Sk:=by
        have:∀z∈([SJ,SK,SN]:TH),z≠Sk:=by decide +kernel
        exact this s hs
       refine⟨_,rfl,rfl,_,rfl,be (d_ fun e=>Ma (V.str.inj e)) ⟨lw,ss,.w0 s,v7,v8,rfl,?_,s3,e3⟩⟩;exact e_ (fun z=>[some (V.ref p),some (.ref d),some (.ref lf),none,none,none,some (.ref lw),v7,v8,some (.str z)]) (fL s).symm
      |fault z=>
       obtain⟨pe',ee,U3⟩:=YU;cases ee;have nz:cm z:=h'.2.2.2;have ln:=nz.1.len;have zl:z.length=(cp z).length:=by show z.cps.size=_;unfold cp;simp
       refine⟨_,rfl,rfl,_,rfl,bD (b_ rfl) ?_⟩;refine⟨_,rfl,_,_,rfl,rfl,by show(Sk:Str).length+(" ":Str).length<=sizeLine;decide +kernel,_,rfl,p,_,_,_,rfl,rfl,NY.of (s3 _ _ hp),jU,pe,_,_,_,rfl,rfl,NY.of (s3 _ _ U3),cI,_,_,rfl,rfl,?_,?_⟩
       ·have:((Sk:Str)++(" ":Str)).length=6:=by decide +kernel
        show((Sk:Str)++(" ":Str)).length+z.length<=sizeLine;lia
       ·refine⟨lw,ss,.fault z,v7,v8,rfl,?_,s3,e3⟩;refine e_ (fun z=>[some (V.ref p),some (.ref d),some (.ref lf),none,none,none,some (.ref lw),v7,v8,some (.str z)]) ?_;show(Sk:Str)++(" ":Str)++z=S (au [(Sk:Str),z]);rw[bE (by simp),cS];have e8:(Sk:Str)++(" ":Str)=S (cp Sk++[32]):=by decide +kernel
        rw[e8];have e9:z=S (cp z):=(fL z).symm;rw[e9,bJ,gr]
        congr 1
        try simp
      |go s j=>
       have hs:s∈([S5,Su]:TH):=h'.2.2.2.1;have Ma:S (au [s,zK fs j])≠Sk:=by
        intro e;have e2:=e_ cp e;rw[gr,bE (by simp),cS]at e2;have:∀z∈([S5,Su]:TH),(cp z)[0]?≠some 102/\cp z≠[]:=by decide +kernel
        obtain⟨h1,h2⟩:=this s hs;have e3:=e_ (fun l:TJ=>l[0]?) e2;have e4:(cp (Sk:Str))[0]?=some 102:=by decide +kernel
        have e5:(cp s++(32::cp (zK fs j)))[0]?=(cp s)[0]?:=by
         cases hc:cp s with
         |nil=>exact absurd hc h2
         |cons a r=>rfl
        exact h1 (by rw[<-e5];exact e3.trans e4)
       exact⟨_,rfl,rfl,_,rfl,be (d_ fun e=>Ma (V.str.inj e)) ⟨lw,ss,.go s j,v7,v8,rfl,rfl,s3,e3⟩⟩
    ·cases e with
     |w0 s=>
      have hs:s∈([SJ,SK,SN]:TH):=h'.2.2.2;have:∀z∈([SJ,SK,SN]:TH),z≠S5/\z≠Su:=by decide +kernel
      obtain⟨h1,h2⟩:=this s hs;refine⟨_,rfl,rfl,_,rfl,be (d_ fun e=>h1 (V.str.inj e)) ?_⟩;refine⟨_,rfl,rfl,_,rfl,be (d_ fun e=>h2 (V.str.inj e)) ⟨lw,ss,.w0 s,v7,v8,rfl,rfl,s2,e2⟩⟩
     |fault z=>
      refine⟨_,rfl,rfl,_,rfl,be (by show decide (V.str Sk=V.str S5)=false;decide +kernel) ?_⟩;refine⟨_,rfl,rfl,_,rfl,be (by show decide (V.str Sk=V.str Su)=false;decide +kernel) ⟨lw,ss,.fault z,v7,v8,rfl,rfl,s2,e2⟩⟩
     |go s j=>
      obtain⟨pe',ee,U3⟩:=YU;cases ee;obtain⟨hs,z,hz⟩:=h'.2.2.2;obtain⟨fu,pf,f1,f2,f3⟩:=zS hX.f hz;have nz:cm z:=hX.G.f _ (Kg hz);have ln:=nz.1.len;have zl:z.length=(cp z).length:=by show z.cps.size=_;unfold cp;simp
      have U2:∀y∈([S5,Su]:TH),y.length<=4/\(y++(" ":Str)).length<=5/\y++(" ":Str)=S (cp y++[32]):=by decide +kernel
      obtain⟨hs4,hs5,hs6⟩:=U2 s hs;have F':uo (Dd.leaf ss (.go s j)) (.ref p) d lf fs H ps ms [some (V.ref p),some (.ref d),some (.ref lf),none,none,none,some (.ref lw),v7,v8,some (.str (s++(" ":Str)++z))] H2:=by
       refine⟨lw,ss,.go s j,v7,v8,rfl,?_,s2,e2⟩;refine e_ (fun z=>[some (V.ref p),some (.ref d),some (.ref lf),none,none,none,some (.ref lw),v7,v8,some (.str z)]) ?_;show s++(" ":Str)++z=S (au [s,zK fs j]);rw[bE (by simp),cS,fq hz,hs6];have e9:z=S (cp z):=(fL z).symm;rw[e9,bJ,gr]
       congr 1
       try simp
      have hs7:s.length+(" ":Str).length<=sizeLine:=by
       have:(" ":Str).length=1:=by decide +kernel
       lia
      by_cases VL:s=S5
      ·refine⟨_,rfl,rfl,_,rfl,bD (b_ (by rw[VL];rfl)) (im ?_)⟩;refine⟨_,rfl,_,_,rfl,rfl,hs7,_,rfl,_,rfl,p,_,_,_,rfl,rfl,NY.of (s2 _ _ hp),jU,pe,_,_,_,rfl,rfl,NY.of (s2 _ _ U3),cI,lf,_,_,_,rfl,rfl,N0.of (s2 _ _ f1),aU f2,pf,_,_,_,rfl,rfl,NY.of (s2 _ _ f3),bu,_,_,rfl,rfl,?_,F'⟩;show(s++(" ":Str)).length+z.length<=sizeLine;lia
      ·have hca:s=Su:=by
        simp only[J0,Kc,l_]at hs;exact hs.resolve_left VL
       refine⟨_,rfl,rfl,_,rfl,be (d_ fun e=>VL (V.str.inj e)) ?_⟩;refine⟨_,rfl,rfl,_,rfl,bD (b_ (by rw[hca];rfl)) ?_⟩;refine⟨_,rfl,_,_,rfl,rfl,hs7,_,rfl,_,rfl,p,_,_,_,rfl,rfl,NY.of (s2 _ _ hp),jU,pe,_,_,_,rfl,rfl,NY.of (s2 _ _ U3),cI,lf,_,_,_,rfl,rfl,N0.of (s2 _ _ f1),aU f2,pf,_,_,_,rfl,rfl,NY.of (s2 _ _ f3),bu,_,_,rfl,rfl,?_,F'⟩;show(s++(" ":Str)).length+z.length<=sizeLine;lia
end
def p9:∀{c:Nat}{d:Dd},eD W ps ms fs m c d->eD W ps ms fs m (c+1) d
 |0,.leaf _ _,h=>h
 |_+1,.leaf _ _,h=>h
 |0,.ite _ _ _,h=>absurd h (by simp[eD])
 |c+1,.ite t y n,h=>⟨h.1,p9 (c:=c) (d:=y) h.2.1,p9 (c:=c) (d:=n) h.2.2⟩
def CD(h:eD W ps ms fs m c d)(hn:c<=n):eD W ps ms fs m n d:=by
 induction hn with
 |refl=>exact h
 |step _ ih=>exact p9 ih
def qa:Nat->Nat
 |0=>1
 |m+1=>2*qa m+3
def ju:∀m,1<=qa m
 |0=>J2 _
 |m+1=>by unfold qa;lia
def zZ(h:m<=n):qa m<=qa n:=by
 induction h with
 |refl=>exact J2 _
 |step _ ih=>simp only[qa];lia
def iV:∀{m:Nat}{e:Ed},aR W ps ms fs m e->(cU (dj ps ms fs e)).length<=qa m
 |m,.num _,_=>ju m
 |m,.fld _,_=>ju m
 |m,.pl _ _,_=>ju m
 |m,.mk _ _,_=>ju m
 |0,.cell _,h=>absurd h (by simp[aR])
 |m+1,.cell e,h=>by
  have h':aR W ps ms fs m e:=by simpa[aR]using h
  have:=iV h';have p:=ju m;simp only[dj,cU,qa,JX,JU,Ke];lia
 |0,.two _ _ _,h=>absurd h (by simp[aR])
 |m+1,.two o x y,h=>by
  have h':o∈Oi/\aR W ps ms fs m x/\aR W ps ms fs m y:=by simpa[aR]using h
  have h1:=iV h'.2.1;have h2:=iV h'.2.2;simp only[dj,cU,qa,JX,JU,Ke];lia
def Fj(h:eU W ps ms fs m g):(jf (dk ps ms fs g)).length+1<=4+qa m+(if g.isCell=true then 1+qa m else 0):=by
 cases g with
 |cell a e=>
  have h1:=iV h.1;have h2:=iV h.2;have h3:=zZ (m:=m-1) (n:=m) zo;simp only[dk,jf,JX,JU,Ke,Sd.isCell,O_];lia
 |pl b n e=>
  have h2:=iV h.2;simp only[dk,jf,JX,JU,Ke,Sd.isCell,O_];lia
 |mk b n e=>
  have h2:=iV h.2;simp only[dk,jf,JX,JU,Ke,Sd.isCell,O_];lia
def rZ:∀{s:List Sd},(∀g∈s,eU W ps ms fs m g)->(bQ (s.map (dk ps ms fs))).length<=s.length*(4+qa m)+(s.filter Sd.isCell).length*(1+qa m)
 |[],_=>by simp[bQ]
 |g::r,h=>by
  have h1:=Fj (h g JW);have h2:=rZ fun x hx=>h x (JZ _ hx);simp only[Kd,bQ,JX,JU,Rw,Rv];by_cases hg:g.isCell=true
  ·rw[Lj hg,JX,Rw,Rv];rw[g_ hg]at h1;lia
  ·rw[LB hg];rw[f_ hg]at h1;lia
def j6(m:Nat):Nat->Nat
 |0=>4+4*(4+qa m)+(1+qa m)
 |c+1=>2*j6 m c+6
def oq(m:Nat):∀c,j6 m 0<=j6 m c
 |0=>J2 _
 |c+1=>by have:=oq m c;simp only[j6]at*;lia
def uq:∀{c:Nat}{d:Dd},eD W ps ms fs m c d->(db (js ps ms fs d)).length<=j6 m c
 |c,.leaf s e,h=>by
  have h':s.length<=4/\(s.filter Sd.isCell).length<=1/\(∀g∈s,eU W ps ms fs m g)/\ko fs e:=by cases c<;>exact h
  have h1:=rZ h'.2.2.1;have h2:=oq m c;have h3:s.length*(4+qa m)<=4*(4+qa m):=Rq _ h'.1;have h4:(s.filter Sd.isCell).length*(1+qa m)<=1*(1+qa m):=Rq _ h'.2.1;have h5:(gA (gz fs e)).length<=2:=by cases e<;>simp[gz,gA]
  simp only[js,db,JX,JU,Ke];simp only[j6]at h2;lia
 |0,.ite _ _ _,h=>absurd h (by simp[eD])
 |c+1,.ite t y n,h=>by
  have h1:=uq (c:=c) h.2.1;have h2:=uq (c:=c) h.2.2;simp only[js,db,j6,JX,JU,Ke];have h3:((if ui t=true then [(S3:Str),qy ps ms fs t]else [qy ps ms fs t]):TH).length<=2:=by split<;>simp
  lia
def jv(fs:TM):(dI fs).length=3*fs.length-1:=by
 unfold dI;rw[J9,rP];lia
def Fk(h:KL W ps ms fn c k x):(cj x).length<=12+j6 (k-1) c:=by
 obtain⟨j,hj,e⟩:=h.fn;have hl:x.fs.length<=3:=by
  have:=e_ List.length e;rw[JY,J9]at this;lia
 have h1:=uq h.dd;unfold cj;rw[h.bd];simp only[JX,JU,Ke,jv];lia
def vW:∀{l:List Kn},(∀x∈l,(cj x).length<=b)->(l.flatMap cj).length<=l.length*b
 |[],_=>by simp
 |x::r,h=>by
  have h1:=h x JW;have h2:=vW fun y hy=>h y (JZ _ hy);rw[Lu,JU,JX,Rw,Rv];lia
def Fl(h:pY n c k):n*(12+j6 (k-1) c)<=1400/\j6 (k-1) c<=1000:=by
 have f:∀n' k' c' b,j6 (k'-1) c'<=b->n'*(12+b)<=1400->b<=1000->n<=n'->k=k'->c=c'->n*(12+j6 (k-1) c)<=1400/\j6 (k-1) c<=1000:=by
  intro n' k' c' b h1 h2 h3 h4 h5 h6;subst h5 h6;exact⟨Kx (Nat.mul_le_mul h4 zo) h2,zo⟩
 rcases h with⟨_,h,rfl,rfl⟩|⟨rfl,rfl,rfl⟩|⟨_,h,rfl,rfl⟩|⟨_,h,rfl,h2,h3⟩
 ·exact f 8 2 0 100 zd zd zd h rfl rfl
 ·exact f 1 2 3 1000 zd zd zd (J2 _) rfl rfl
 ·exact f 5 4 0 260 zd zd zd h rfl rfl
 ·have:k=2\/k=3:=by lia
  rcases this with rfl|rfl
  ·exact f 3 2 1 400 zd zd zd h rfl rfl
  ·exact f 3 3 1 400 zd zd zd h rfl rfl
def z4(h:iU D fn gt):(fc D).length<=23:=by
 have h1:=h.p4;have h2:=h.m3;have h3:D.gates.length<=1:=by rw[h.ga];cases gt<;>simp[gL]
 unfold fc;simp only[JX,JU,Ke];lia
def mJ(h:iU D fn gt):(dF D).length<=1500:=by
 obtain⟨c,k,hm,hk⟩:=h.kl;have h1:=z4 h;have h2:=vW (l:=D.kinds) fun x hx=>Fk (hk x hx);have h3:=Fl hm;unfold dF;rw[JU];lia
def ot(h:iU D fn gt)(hx:x∈D.kinds):Hh D.places D.marks x.fs:=by
 obtain⟨c,k,_,hk⟩:=h.kl;obtain⟨j,_,hj⟩:=(hk x hx).fn;refine⟨fun z hz=>h.nf z (by simp[hz]),fun z hz=>h.nf z (by simp[hz]),fun f hf=>?_⟩;have:f.1∈x.fs.map (·.1):=Kr.mpr ⟨f,hf,rfl⟩;rw[hj]at this;exact h.nf _ (Km _ (Ln this))
def ur(h:iU D fn gt)(hx:x∈D.kinds):eP D.width 3 x.bd:=by
 obtain⟨c,k,hm,hk⟩:=h.kl;have:=ki hm;rw[(hk x hx).bd];exact om (ot h hx) zo (hk x hx).dd zo
def uv(h:iU D fn gt)(hx:x∈D.kinds):x.fs.length<=3:=by
 obtain⟨c,k,_,hk⟩:=h.kl;obtain⟨j,hj,e⟩:=(hk x hx).fn;have:=e_ List.length e;rw[JY,J9]at this;lia
def mL(h:iU D fn gt)(hx:x∈D.kinds):∀f∈x.fs,f.2∈dq:=by
 obtain⟨c,k,_,hk⟩:=h.kl;exact(hk x hx).st
def jw(h:iU D fn gt):∀z∈D.gates,z∈D.marks:=by
 intro z hz;rw[h.ga]at hz;cases Ua:gt with
 |none=>rw[Ua]at hz;cases hz
 |some g=>
  rw[Ua]at hz;have Wx:=h.gb g Ua;rw[Kz.mp hz,Kv,J1 Wx];exact KJ Wx
def uw(h:s∈dq):s∈OJ:=by
 have:∀s∈dq,s∈OJ:=by decide +kernel
 exact this s h
def z9(h:∀f∈fs,N8 f.1/\f.2∈dq):∀z∈dI fs,OH z:=by
 intro z hz;have U7:=Ln hz;unfold pQ at U7;obtain⟨x,hx,U7⟩:=List.mem_flatMap.mp U7;simp only[J0,Kc,l_]at U7;rcases U7 with rfl|rfl|rfl
 ·exact .name (h x hx).1
 ·exact .word (uw (h x hx).2)
 ·exact .sign zk
def vX(h:iU D fn gt):∀z∈fc D,OH z:=by
 have UI:=h.c64;have hw24:=h.w24;have Wz:=h.d8;intro z hz;unfold fc at hz;simp only[Ko,J0,Kc,l_]at hz;have wd:∀z∈OJ,OH z:=fun z hz=>.word hz;have nm:∀z∈D.places++D.marks,OH z:=fun z hz=>.name (h.nf z (K3 _ hz)).1;rcases hz with(((((rfl|rfl|rfl|rfl|rfl|rfl|rfl|rfl|rfl)|(rfl|hz)|rfl)|(rfl|hz)|rfl)|rfl)|hz)|rfl
 ·exact wd _ zk
 ·exact .num zo
 ·exact .sign zk
 ·exact wd _ zk
 ·exact .num zo
 ·exact .sign zk
 ·exact wd _ zk
 ·exact .num zo
 ·exact .sign zk
 ·exact wd _ zk
 ·exact nm z (K3 _ hz)
 ·exact .sign zk
 ·exact wd _ zk
 ·exact nm z (Km _ hz)
 ·exact .sign zk
 ·exact wd _ zk
 ·exact nm z (Km _ (jw h z hz))
 ·exact .sign zk
def qb(h:iU D fn gt)(hx:x∈D.kinds):∀z∈cj x,OH z:=by
 intro z hz;unfold cj at hz;simp only[Ko,J0,Kc,l_]at hz;rcases hz with(((rfl|rfl|rfl)|hz)|rfl)|hz
 ·exact .word zk
 ·exact .name (h.kf x hx).1
 ·exact .sign zk
 ·exact z9 (fun f hf=>⟨((ot h hx).f f hf).1,mL h hx f hf⟩) z hz
 ·exact .sign zk
 ·exact oj h.w24 (ur h hx) z hz
def CF(h:iU D fn gt):∀z∈dF D,OH z:=by
 intro z hz;rcases Ko.mp hz with hz|hz
 ·exact vX h z hz
 ·obtain⟨x,hx,hz⟩:=List.mem_flatMap.mp hz;exact qb h hx z hz
def Aa(h:l[n]?=some z):(z,st,false,n)∈iZ st l:=Kg (i:=n) (by rw[mv,h];rfl)
def Hm(h:fs[j]?=some (z,st)):(z,st,true,j)∈fN fs:=Kg (i:=j) (by rw[y8,h];rfl)
structure Fo(ks:List Ne)(ps ms:TH)(fs:TM):Prop where
 p:∀(n:Nat)(z:Str),ps[n]?=some z->(z,(R9:Str),false,n)∈ks
 m:∀(n:Nat)(z:Str),ms[n]?=some z->(z,(Sc:Str),false,n)∈ks
 f:∀(n:Nat)(z s:Str),fs[n]?=some (z,s)->(z,s,true,n)∈ks
def Hn(D:Fm)(fs:TM):Fo (io D++fN fs) D.places D.marks fs:=
 ⟨fun n z h=>K3 _ (K3 _ (Aa h)),fun n z h=>K3 _ (Km _ (Aa h)),fun n z s h=>Km _ (Hm h)⟩
section
variable{ks:List Ne}
def iW{L:TH}{st:Str}{fs:TM}{b:Bool}{n:Nat}(hL:∀(n:Nat)(z:Str),L[n]?=some z->(z,st,false,n)∈ks)(hF:∀(n:Nat)(z s:Str),fs[n]?=some (z,s)->(z,s,true,n)∈ks)(h:cw L st fs b n):(eX L fs b n,st,b,n)∈ks:=by
 unfold cw at h;unfold eX;cases b with
 |true=>
  rw[g_ rfl]at h⊢;obtain⟨z,hz⟩:=h;rw[fq hz];exact hF _ _ _ hz
 |false=>
  rw[f_ zd]at h⊢;rw[Kv,J1 h];exact hL _ _ (J1 h)
variable{ps ms:TH}{W:Nat}
def ux{fs:TM}(G:Fo ks ps ms fs):∀{m:Nat}{e:Ed},aR W ps ms fs m e->uc ks (dj ps ms fs e) e
 |_,.num n,h=>.num n
 |m,.fld j,h=>by
  have h':∃z:Str,fs[j]?=some (z,("number":Str)):=by cases m<;>simpa[aR]using h
  obtain⟨z,hz⟩:=h';refine .fld (b:=true) ?_;rw[fq hz];exact G.f _ _ _ hz
 |m,.pl b n,h=>by
  have h':cw ps R9 fs b n:=by cases m<;>simpa[aR]using h
  exact .pl (iW G.p G.f h')
 |m,.mk b n,h=>by
  have h':cw ms Sc fs b n:=by cases m<;>simpa[aR]using h
  exact .mk (iW G.m G.f h')
 |0,.cell _,h=>absurd h (by simp[aR])
 |m+1,.cell e,h=>.cell (ux G (m:=m) (e:=e) (by simpa[aR]using h))
 |0,.two _ _ _,h=>absurd h (by simp[aR])
 |m+1,.two o x y,h=>by
  have h':o∈Oi/\aR W ps ms fs m x/\aR W ps ms fs m y:=by simpa[aR]using h
  exact .two h'.1 (ux G (m:=m) h'.2.1) (ux G (m:=m) h'.2.2)
variable{m:Nat}
def Je{fs:TM}(G:Fo ks ps ms fs){g:Sd}(h:eU W ps ms fs m g):EK ks (dk ps ms fs g) g:=by
 cases g with
 |cell a e=>exact .cell (ux G h.1) (ux G h.2)
 |pl b n e=>exact .pl (iW G.p G.f h.1) (ux G h.2)
 |mk b n e=>exact .mk (iW G.m G.f h.1) (ux G h.2)
def Jf(G:Fo ks ps ms fs)(h:ko fs e):Ga ks (gz fs e) e:=by
 cases e with
 |w0 s=>exact .w0 h
 |fault z=>exact .fault z
 |go s j=>
  obtain⟨h1,z,hz⟩:=h;refine .go (b:=true) h1 ?_;rw[fq hz];exact G.f _ _ _ hz
def Jg{fs:TM}(G:Fo ks ps ms fs){t:Tt}(h:Ct ps ms fs t):Gb ks (ui t) (qy ps ms fs t) t:=by
 cases t with
 |top b n=>exact .top (iW G.p G.f h)
 |pl b n=>exact .pl (iW G.p G.f h)
 |mk b n=>exact .mk (iW G.m G.f h)
def Ab(G:Fo ks ps ms fs):∀{s:List Sd},(∀g∈s,eU W ps ms fs m g)->Paired (EK ks) (s.map (dk ps ms fs)) s
 |[],_=>.nil
 |g::r,h=>.cons (Je G (h g JW)) (Ab G fun x hx=>h x (JZ _ hx))
def Fp(G:Fo ks ps ms fs):∀{c:Nat}{d:Dd},eD W ps ms fs m c d->EL ks (js ps ms fs d) d
 |c,.leaf s e,h=>by
  have h':s.length<=4/\(s.filter Sd.isCell).length<=1/\(∀g∈s,eU W ps ms fs m g)/\ko fs e:=by cases c<;>exact h
  exact .leaf (Ab G h'.2.2.1) (Jf G h'.2.2.2)
 |0,.ite _ _ _,h=>absurd h (by simp[eD])
 |c+1,.ite t y n,h=>.ite (Jg G h.1) (Fp G (c:=c) h.2.1) (Fp G (c:=c) h.2.2)
def ii:∀{m:Nat}{x:Ex},cO w m x->qw x<=m
 |_,.num _,_=>KO _
 |_,.nm _,_=>KO _
 |0,.cell _,h=>absurd h (by simp[cO])
 |m+1,.cell e,h=>by
  have:=ii (m:=m) (x:=e) h;simp only[qw];lia
 |0,.two _ _ _,h=>absurd h (by simp[cO])
 |m+1,.two o x y,h=>by
  have h1:=ii (m:=m) h.2.1;have h2:=ii (m:=m) h.2.2;simp only[qw];lia
def CG(h:jT w g):GX g<=3:=by
 cases g with
 |cell a e=>
  have h1:=ii h.1;have h2:=ii h.2;simp only[GX];lia
 |nm z e=>exact ii h.2
def uy:∀{m:Nat}{b:Bd},eP w m b->Bg b<=m
 |_,.leaf _ _,_=>KO _
 |0,.ite _ _ _ _,h=>absurd h (by simp[eP])
 |m+1,.ite t z y n,h=>by
  have h1:=uy (m:=m) h.2.1;have h2:=uy (m:=m) h.2.2;simp only[Bg];lia
def mM:∀{m:Nat}{b:Bd},eP w m b->rG 3 b
 |m,.leaf s e,h=>by
  have h':s.length<=4/\(∀g∈s,jT w g):=by cases m<;>exact⟨h.1,h.2.1⟩
  exact⟨fun g hg=>CG (h'.2 g hg),h'.1⟩
 |0,.ite _ _ _ _,h=>absurd h (by simp[eP])
 |m+1,.ite t z y n,h=>⟨mM (m:=m) h.2.1,mM (m:=m) h.2.2⟩
def kU(st:Str)(l:TH):(iZ st l).map (·.1)=l:=by
 refine List.ext_getElem? fun i=>?_;rw[Kl,mv];cases l[i]?<;>rfl
def Fq(fs:TM):(fN fs).map (·.1)=fs.map (·.1):=by
 refine List.ext_getElem? fun i=>?_;rw[Kl,y8,Kl];cases fs[i]?<;>rfl
def Fs(h:iU D fn gt)(hx:x∈D.kinds):EM (io D) x:=by
 obtain⟨c,k,hm,hk⟩:=h.kl;have hb:=ur h hx;refine⟨?_,uv h hx,?_,uy hb,mM hb⟩
 ·obtain⟨j,_,hj⟩:=(hk x hx).fn;unfold io;rw[Kb,Kb,kU,kU,Fq,hj];exact List.Nodup.sublist (List.Sublist.append (List.Sublist.refl _) (List.take_sublist _ _)) h.nd
 ·rw[(hk x hx).bd];exact Fp (Hn D x.fs) (hk x hx).dd
def eV(h:iU D fn gt):wY D:=by
 obtain⟨c,k,hm,hk⟩:=h.kl;have:=ki hm;refine⟨?_,jw h,by rw[h.ga];cases gt<;>simp[gL],h.kn,fun x hx=>Fs h hx,h.p4,h.m3,zo⟩;unfold io;rw[Kb,kU,kU];exact(LG.mp h.nd).1
def bR(e:ts=A++x::B)(h:A.length=k):(tz ts)[k]?=some x:=by
 subst e h;unfold tz;rw[KH,Ld (J2 _)];simp
def qc(e:ts=A++(zs++B))(h:A.length=k)(hn:∀z∈zs,N8 z):rB ts k zs:=by
 intro i hi;refine⟨bR (A:=A++zs.take i) (B:=zs.drop (i+1)++B) ?_ ?_,hn _ (KJ hi)⟩
 ·rw[e,KH]
  congr 1
  rw[<-K7,<-KP hi,<-KH,KZ]
 ·rw[JU,J9];lia
def CI(e:ts=A++(zs++B))(h:A.length=k):At ts k zs:=by
 intro i z hz;obtain⟨hi,rfl⟩:=JV.mp hz;refine bR (A:=A++zs.take i) (B:=zs.drop (i+1)++B) ?_ ?_
 ·rw[e,KH]
  congr 1
  rw[<-K7,<-KP hi,<-KH,KZ]
 ·rw[JU,J9];lia
def Ac:dI []=[]:=rfl
def jx(x:Str×Str):dI [x]=[x.1,x.2]:=rfl
def jy(x y:Str×Str)(r:TM):dI (x::y::r)=x.1::x.2::(",":Str)::dI (y::r):=by
 unfold dI;have e:pQ (x::y::r)=[x.1,x.2,","]++pQ (y::r):=rfl;have h1:=rP (y::r);rw[e,JU,List.take_append];have h2:[x.1,x.2,(",": Str)].length+(pQ (y::r)).length-1-[x.1,x.2,(",": Str)].length=(pQ (y::r)).length-1:=by
  simp only[JX]at h1;simp;lia
 rw[h2,K6 (by
  simp only[JX]at h1;simp;lia)]
 rfl
def r9:∀(fs:TM){A B ts:TH}{k:Nat},ts=A++(dI fs++B)->A.length=k->(∀f∈fs,N8 f.1/\f.2∈dq)->tU ts k fs
 |[],_,_,_,_,_,_,_=>fun i h=>absurd h (by simp)
 |[x],A,B,ts,k,e,h,hf=>fun i hi=>by
  have h0:i=0:=by simpa using hi
  subst h0;rw[jx]at e;have hx:=hf x JW;refine⟨bR (A:=A) (B:=x.2::B) e h,hx.1,bR (A:=A++[x.1]) (B:=B) (by rw[e];simp) (by simp[h]),hx.2,fun hh=>absurd hh (by simp)⟩
 |x::y::r,A,B,ts,k,e,h,hf=>fun i hi=>by
  rw[jy]at e;have hx:=hf x JW;cases i with
  |zero=>
   refine⟨bR (A:=A) (B:=x.2::(",":Str)::(dI (y::r)++B)) (by rw[e];simp) h,hx.1,bR (A:=A++[x.1]) (B:=(",":Str)::(dI (y::r)++B)) (by rw[e];simp) (by simp[h]),hx.2,fun _=>bR (A:=A++[x.1,x.2]) (B:=dI (y::r)++B) (by rw[e];simp) (by simp[h])⟩
  |succ i=>
   have ih:=r9 (y::r) (A:=A++[x.1,x.2,(",":Str)]) (B:=B) (ts:=ts) (k:=k+3) (by rw[e];simp) (by simp[h]) (fun f hf'=>hf f (JZ _ hf')) i (by simpa using hi);have e1:k+3+3*i=k+3*(i+1):=by lia
   rw[e1]at ih;refine⟨ih.1,ih.2.1,ih.2.2.1,ih.2.2.2.1,fun hh=>ih.2.2.2.2 (by simpa using hh)⟩
def Ad(e:ts=A++(cj x++B))(h:A.length=k)(hn:N8 x.name)(hf:∀f∈x.fs,N8 f.1/\f.2∈dq)(h3:x.fs.length<=3)(hb:eP w 3 x.bd):tV ts w k x:=by
 unfold cj at e;have fl:=jv x.fs;refine⟨bR (A:=A) (B:=[x.name,("(":Str)]++dI x.fs++[(")":Str)]++db x.bd++B) (by rw[e];simp) h,
  bR (A:=A++[(So:Str)]) (B:=[("(":Str)]++dI x.fs++[(")":Str)]++db x.bd++B) (by rw[e];simp) (by simp[h]),hn,
  bR (A:=A++[(So:Str),x.name]) (B:=dI x.fs++[(")":Str)]++db x.bd++B) (by rw[e];simp) (by simp[h]),
  r9 x.fs (A:=A++[(So:Str),x.name,("(":Str)]) (B:=[(")":Str)]++db x.bd++B) (by rw[e];simp) (by simp[h]) hf,
  bR (A:=A++[(So:Str),x.name,("(":Str)]++dI x.fs) (B:=db x.bd++B) (by rw[e];simp) (by simp[h,fl];lia),h3,
  CI (A:=A++[(So:Str),x.name,("(":Str)]++dI x.fs++[(")":Str)]) (B:=B) (by rw[e];simp) (by simp[h,fl];lia),hb⟩
def Ft(x:Kn):(cj x).length=wU x:=by
 unfold cj wU;simp only[JU,JX,Ke,jv];lia
def ou:∀(l:List Kn){A ts:TH}{k:Nat},ts=A++l.flatMap cj->A.length=k->(∀x∈l,N8 x.name/\(∀f∈x.fs,N8 f.1/\f.2∈dq)/\x.fs.length<=3/\eP w 3 x.bd)->kJ ts w k l
 |[],A,ts,k,e,h,_=>by
  show k=ts.length;rw[e];simp[h]
 |x::r,A,ts,k,e,h,hx=>by
  rw[Lu]at e;obtain⟨h1,h2,h3,h4⟩:=hx x JW;exact⟨Ad e h h1 h2 h3 h4,ou r (A:=A++cj x) (by rw[e];simp) (by rw[JU,Ft,h]) (fun y hy=>hx y (JZ _ hy))⟩
def CJ(h:iU D fn gt):pH (dF D) D:=by
 obtain⟨c,k,hm,hk⟩:=h.kl;have Xr:=ki hm;have nP:∀z∈D.places,N8 z:=fun z hz=>(h.nf z (by simp[hz])).1;have nM:∀z∈D.marks,N8 z:=fun z hz=>(h.nf z (by simp[hz])).1;generalize hR:D.kinds.flatMap cj=R;have e0:dF D=[(SA:Str),(toString (D.width:Int):Str),(";":Str),(Se:Str),(toString (D.cells:Int):Str),(";":Str),(Sh:Str),(toString (D.depth:Int):Str),(";":Str),(Sa:Str)]++(D.places++([(";":Str),(Sg:Str)]++(D.marks++([(";":Str),(Sx:Str)]++(D.gates++([(";":Str)]++R)))))):=by
  unfold dF fc;rw[hR];simp
 refine⟨bR (A:=[]) e0 rfl,bR (A:=[(SA:Str)]) e0 rfl,bR (A:=[(SA:Str),_]) e0 rfl,bR (A:=[(SA:Str),_,(";":Str)]) e0 rfl,bR (A:=[(SA:Str),_,(";":Str),(Se:Str)]) e0 rfl,bR (A:=[(SA:Str),_,(";":Str),(Se:Str),_]) e0 rfl,bR (A:=[(SA:Str),_,(";":Str),(Se:Str),_,(";":Str)]) e0 rfl,bR (A:=[(SA:Str),_,(";":Str),(Se:Str),_,(";":Str),(Sh:Str)]) e0 rfl,bR (A:=[(SA:Str),_,(";":Str),(Se:Str),_,(";":Str),(Sh:Str),_]) e0 rfl,bR (A:=[(SA:Str),_,(";":Str),(Se:Str),_,(";":Str),(Sh:Str),_,(";":Str)]) e0 rfl,
  qc e0 rfl nP,?_,?_,?_,?_,?_,?_,?_,?_,⟨h.w4,h.w24⟩,⟨h.c4,h.c64⟩,h.d8,⟨h.p1,h.p4⟩,h.m3,(eV h).g1,⟨zo,zo⟩⟩
 all_goals (have hW:([(SA:Str),(toString (D.width:Int):Str),(";":Str),(Se:Str),(toString (D.cells:Int):Str),(";":Str),(Sh:Str),(toString (D.depth:Int):Str),(";":Str),(Sa:Str)]:TH).length=10:=rfl)
 all_goals (generalize ([(SA:Str),(toString (D.width:Int):Str),(";":Str),(Se:Str),(toString (D.cells:Int):Str),(";":Str),(Sh:Str),(toString (D.depth:Int):Str),(";":Str),(Sa:Str)]:TH)=W at*)
 ·exact bR (A:=W++D.places) (B:=(Sg:Str)::(D.marks++([(";":Str),(Sx:Str)]++(D.gates++([(";":Str)]++R))))) (by rw[e0];simp) (by simp[hW])
 ·exact bR (A:=W++D.places++[(";":Str)]) (B:=D.marks++([(";":Str),(Sx:Str)]++(D.gates++([(";":Str)]++R)))) (by rw[e0];simp) (by simp[hW];lia)
 ·exact qc (A:=W++D.places++[(";":Str),(Sg:Str)]) (B:=[(";":Str),(Sx:Str)]++(D.gates++([(";":Str)]++R))) (by rw[e0];simp) (by simp[hW];lia) nM
 ·exact bR (A:=W++D.places++[(";":Str),(Sg:Str)]++D.marks) (B:=(Sx:Str)::(D.gates++([(";":Str)]++R))) (by rw[e0];simp) (by simp[hW];lia)
 ·exact bR (A:=W++D.places++[(";":Str),(Sg:Str)]++D.marks++[(";":Str)]) (B:=D.gates++([(";":Str)]++R)) (by rw[e0];simp) (by simp[hW];lia)
 ·exact qc (A:=W++D.places++[(";":Str),(Sg:Str)]++D.marks++[(";":Str),(Sx:Str)]) (B:=[(";":Str)]++R) (by rw[e0];simp) (by simp[hW];lia) (fun z hz=>nM z (jw h z hz))
 ·exact bR (A:=W++D.places++[(";":Str),(Sg:Str)]++D.marks++[(";":Str),(Sx:Str)]++D.gates) (B:=R) (by rw[e0];simp) (by simp[hW];lia)
 ·subst hR;refine ou D.kinds (A:=W++D.places++[(";":Str),(Sg:Str)]++D.marks++[(";":Str),(Sx:Str)]++D.gates++[(";":Str)]) (by rw[e0];simp) (by simp[hW];lia) (fun x hx=>⟨(h.kf x hx).1,fun f hf=>⟨((ot h hx).f f hf).1,mL h hx f hf⟩,uv h hx,ur h hx⟩)
end
def j7(hs:s=[]\/∃c r,s=c::r/\TK.gx c=true):∀ts:List (TJ),ts≠[]->(∀t∈ts,TK.Tok t)->TK.toks (TK.jn [32] ts++s)=ts++TK.toks s
 |[],h,_=>absurd rfl h
 |[t],_,h=>TK.qQ (h t JW) hs
 |t::u::r,_,h=>by
  have ih:=j7 hs (u::r) (by simp) (fun x hx=>h x (JZ _ hx));show TK.toks ((t++(32::TK.jn [32] (u::r)))++s)=_;rw[KH,K7,TK.qQ (h t JW) (.inr ⟨32,_,rfl,rfl⟩),TK.lK (show TK.gx 32=true from rfl),ih];rfl
def mO:∀gs:List (List (TJ)),(∀g∈gs,g≠[]/\∀t∈g,TK.Tok t)->TK.toks (TK.jn [10] (gs.map (TK.jn [32])))=gs.flatten
 |[],_=>rfl
 |[g],h=>by
  have hg:=h g JW;have:=j7 (s:=[]) (.inl rfl) g hg.1 hg.2;rw[KB]at this;show TK.toks (TK.jn [32] g)=_;rw[this];simp[TK.qO]
 |g::k::r,h=>by
  have hg:=h g JW;have ih:=mO (k::r) (fun x hx=>h x (JZ _ hx));show TK.toks (TK.jn [32] g++(10::TK.jn [10] ((k::r).map (TK.jn [32]))))=_;rw[j7 (.inr ⟨10,_,rfl,rfl⟩) g hg.1 hg.2,TK.lK (show TK.gx 10=true from rfl),ih];rfl
def CM(D:Fm):List (TH):=fc D::D.kinds.map cj
def uz(D:Fm):∀g∈CM D,g≠[]:=by
 intro g hg;rcases J0.mp hg with rfl|hg
 ·simp[fc]
 ·obtain⟨x,_,rfl⟩:=Kr.mp hg;simp[cj]
def jz(D:Fm):(CM D).flatten=dF D:=by
 unfold CM dF;rw[LH,List.flatMap_def]
def vY(D:Fm):jl D D.kinds=(CM D).map au:=by
 unfold jl CM;rw[Kd,K2];rfl
def xm(h:∀z∈dF D,OH z):TK.toks (eR D)=(dF D).map cp:=by
 unfold eR;rw[vY];have:=mO ((CM D).map fun g=>g.map cp) (fun g hg=>by
  obtain⟨g0,W1,rfl⟩:=Kr.mp hg;refine⟨by simpa using uz D g0 W1,fun t ht=>?_⟩;obtain⟨z,hz,rfl⟩:=Kr.mp ht;exact(h z (by rw[<-jz];exact List.mem_flatten.mpr ⟨g0,W1,hz⟩)).tok)
 rw[K2]at this;have e:((CM D).map fun g=>g.map cp).flatten=(dF D).map cp:=by
  rw[<-jz,List.map_flatten]
 rw[e]at this;exact this
def Jh(h:OH z)(hc:TK.gx c=true):c∉cp z:=fun hm=>by
 have:=h.tok.ng c hm;rw[hc]at this;cases this
def Ae(hs:c∉sep):∀{ts:List (TJ)},(∀t∈ts,c∉t)->c∉TK.jn sep ts
 |[],_=>by simp[TK.jn]
 |[t],h=>h t JW
 |t::u::r,h=>by
  have ih:=Ae hs (ts:=u::r) (fun x hx=>h x (JZ _ hx));show c∉t++(sep++TK.jn sep (u::r));rw[Ko,Ko];rintro(h1|h1|h1)
  ·exact h t JW h1
  ·exact hs h1
  ·exact ih h1
def xn(h:∀z∈zs,OH z):10∉au zs:=by
 unfold au;refine Ae zd fun t ht=>?_;obtain⟨z,hz,rfl⟩:=Kr.mp ht;exact Jh (h z hz) rfl
def Af(h:ts≠[])(hn:∀t∈ts,t≠[]):TK.jn sep ts≠[]:=by
 cases ts with
 |nil=>exact absurd rfl h
 |cons t r=>
  have ht:=hn t JW;cases r with
  |nil=>exact ht
  |cons u r=>
   show t++_≠[];simp[ht]
def CP(h:zs≠[])(ht:∀z∈zs,OH z):au zs≠[]:=by
 unfold au;refine Af (by simpa using h) fun t hm=>?_;obtain⟨z,hz,rfl⟩:=Kr.mp hm;exact(ht z hz).tok.ne
def xp(h:∀z∈dF D,OH z):Txt.replace (S (eR D)) (S [10]) (S [32])=S (au (dF D)):=by
 have hg:∀g∈CM D,∀z∈g,OH z:=fun g hg z hz=>h z (by rw[<-jz];exact List.mem_flatten.mpr ⟨g,hg,hz⟩);have e:=StrLaws.replace_one (S (eR D)) (S [32]) 10;have e1:(⟨#[10]⟩:Str)=S [10]:=rfl;rw[e1]at e;rw[e];unfold eR;rw[vY,zx 10 _ ?_ ?_,gP,fQ _ (uz D),jz]
 ·refine Af (by simp[CM]) fun t ht=>?_;obtain⟨g,UN,rfl⟩:=Kr.mp ht;exact CP (uz D g UN) (hg g UN)
 ·intro t ht;obtain⟨g,UN,rfl⟩:=Kr.mp ht;exact xn (hg g UN)
def qd(z:Str):(cp z).length=z.length:=by unfold cp;simp[Str.length]
def Ag(h:∀z∈dF D,OH z)(hl:(dF D).length<=1500):(eR D).length<=15000:=by
 have h1:(eR D).length=(au (dF D)).length:=by
  have:=e_ (fun z=>(cp z).length) (xp h);simp only[gr]at this;rw[<-this,qd];have:=yp (S (eR D)) 10 32;have e1:(⟨#[10]⟩:Str)=S [10]:=rfl;have e2:(⟨#[32]⟩:Str)=S [32]:=rfl;rw[e1,e2]at this;rw[this,aG]
 have h2:=bG h;lia
def vZ(h:fs≠[]):dI fs≠[]:=by
 cases fs with
 |nil=>exact absurd rfl h
 |cons x r=>
  cases r with
  |nil=>rw[jx];simp
  |cons y r=>rw[jy];simp
def nq(fs:TM):List (TJ):=fs.map fun x=>cp x.1++(32::cp x.2)
def Ah:∀fs:TM,TK.jn [32,44,32] (nq fs)=au (dI fs)
 |[]=>rfl
 |[x]=>by
  rw[jx,bE (by simp),cS];rfl
 |x::y::r=>by
  have ih:=Ah (y::r);show TK.jn [32,44,32] ((cp x.1++(32::cp x.2))::nq (y::r))=_;rw[ig (by simp[nq]),ih,jy,bE (by simp),bE (by simp),bE (vZ (by simp))];have e:cp (",":Str)=[44]:=by decide +kernel
  rw[e];simp
def Ai(hl:H l=some (.lst (dc xs)))(hb:H b=some (.lst (dc zs)))(hz:xs.length+zs.length<=1000000)(q:∀c H',NV H H'->H c=none->H' c=some (.lst (dc (xs++zs)))->Q (.ref c) H'):Bz (.ref l) (.ref b) H Q:=by
 rw[my]at hl hb;refine oa hl hb (by simpa using hz) fun c H' s n e=>q c H' s n ?_;rw[my,Kb];exact e
def Ji:(" , ":Str)=S [32,44,32]:=by decide +kernel
def uA:∀{xs:List α}{ys:List β},Paired R xs ys->xs.length=ys.length
 |_,_,.nil=>rfl
 |_,_,.cons _ t=>by rw[JX,JX,uA t]
def CQ(f:Str×Str)(h1:N8 f.1)(h2:f.2∈dq):f.1.length<=8/\f.2.length<=8:=by
 have:∀z∈dq,z.length<=8:=by decide +kernel
 exact⟨h1.2.2.1,this _ h2⟩
def Jj(f:Str×Str):(f.1++(" ":Str)=S (cp f.1++[32]))/\(S (cp f.1++[32])++f.2=S (cp f.1++(32::cp f.2))):=by
 have e1:=fL f.1;have e2:=fL f.2;constructor
 ·rw[pP];conv=>lhs;rw[<-e1]
  rw[bJ]
 ·conv=>lhs;rw[<-e2]
  rw[bJ]
  congr 1
  simp
def ow(fs:TM):(S (au (dI fs))=("":Str))↔fs=[]:=by
 constructor
 ·intro h;by_cases e:fs=[]
  ·exact e
  ·exfalso;have h2:=e_ cp h;rw[gr]at h2;have h3:cp ("":Str)=[]:=by decide +kernel
   rw[h3]at h2;cases fs with
   |nil=>exact e rfl
   |cons x r=>
    have h4:au (dI (x::r))=cp x.1++(32::au ((dI (x::r)).tail)):=by
     cases r with
     |nil=>rw[jx,bE (by simp)];rfl
     |cons y r=>rw[jy,bE (by simp)];rfl
    rw[h4]at h2;simp at h2
 ·rintro rfl;decide +kernel
def mP(D:Fm):List (TH):=[[SA,(toString (D.width:Int):Str)],[Se,(toString (D.cells:Int):Str)],[Sh,(toString (D.depth:Int):Str)],(Sa:Str)::D.places,(Sg:Str)::D.marks,(Sx:Str)::D.gates]
def CS(D:Fm):TK.jn [32] ((mP D).map fun g=>au (g++[(";":Str)]))=au (fc D):=by
 have h:=fQ ((mP D).map fun g=>g++[(";":Str)]) (by
  intro g hg;obtain⟨g0,_,rfl⟩:=Kr.mp hg;simp)
 rw[K2]at h;have e:((mP D).map fun g=>g++[(";":Str)]).flatten=fc D:=by
  unfold mP fc;simp
 rw[e]at h;exact h
def sd(fs:TM):List (TH):=if fs=[]then []else [dI fs]
def CU(x:Kn):TK.jn [32] ([cp So,cp x.name,cp "("]++(sd x.fs).map au++[cp ")"]++[au (db x.bd)])=au (cj x):=by
 have h:=fQ ([[(So:Str)],[x.name],[("(":Str)]]++sd x.fs++[[(")":Str)]]++[db x.bd]) (by
  intro g hg;simp only[Ko,J0,Kc,l_]at hg;rcases hg with((((rfl|rfl|rfl)|hg)|rfl)|rfl)
  ·simp
  ·simp
  ·simp
  ·unfold sd at hg;split at hg
   ·cases hg
   ·rw[Kz.mp hg];exact vZ (by assumption)
  ·simp
  ·exact mH _)
 have e:([[(So:Str)],[x.name],[("(":Str)]]++sd x.fs++[[(")":Str)]]++[db x.bd]).flatten=cj x:=by
  unfold cj sd;split
  ·rename_i hn;rw[hn,Ac];simp
  ·simp
 rw[e]at h;rw[<-h];simp only[Kb,Kd,Li];rfl
def Aj(ms:TH)(gt:Option Nat)(i:Nat):TH:=match gt with
 |none=>[]
 |some g=>if g<i then [ms.getD g ""]else []
def Ak(h:∀g,gt=some g->g<ms.length):Aj ms gt ms.length=gL ms gt:=by
 cases gt with
 |none=>rfl
 |some g=>show(if g<ms.length then _ else _)=_;rw[g_ (h g rfl)];rfl
def oy(h:ms[i]?=some z):Aj ms gt (i+1)=Aj ms gt i++(if decide (V.int (i:Nat)=gV gt)=true then [z]else []):=by
 cases gt with
 |none=>
  have:decide (V.int (i:Nat)=gV none)=false:=d_ fun e=>by cases e
  rw[this];rfl
 |some g=>
  show(if g<i+1 then [ms.getD g ""]else [])=(if g<i then [ms.getD g ""]else [])++_;by_cases e:i=g
  ·subst e;rw[g_ zo,f_ zo,g_ (show decide (V.int (i:Nat)=gV (some i))=true from b_ rfl),Kv,h];rfl
  ·have:decide (V.int (i:Nat)=gV (some g))=false:=d_ fun e'=>e (by have:=V.int.inj e';lia);rw[this];by_cases h1:g<i
   ·rw[g_ zo,g_ h1];simp
   ·rw[f_ zo,f_ h1];simp
def qe{n:Nat}(h:n<=1000):(toString (n:Int):Str).length<=8:=by
 rw[iM,aG];exact(gN n).2 8 zd zo
def qf(h:a=S (l++[32]))(hl:l=cp (S l))(z:Str):a++z=S (au [S l,z]):=by
 rw[bE (by simp),cS,h];have e:z=S (cp z):=(fL z).symm;rw[e,bJ,gr,gr]
 congr 1
 simp
def Fu:("word ":Str)=S ([119,111,114,100]++[32])/\("cells ":Str)=S ([99,101,108,108,115]++[32])/\("depth ":Str)=S ([100,101,112,116,104]++[32]):=by decide +kernel
def Fv:S [119,111,114,100]=(SA:Str)/\S [99,101,108,108,115]=(Se:Str)/\S [100,101,112,116,104]=(Sh:Str):=by decide +kernel
inductive qh(vs:TQ)(H:Hp)(Q:VK)(Z3:XK):Prop
 |mk(d D gt kvs lp lm lk us fn:_):vs=[.ref d]->PL H d D gt kvs lp lm lk us->iU D fn gt->(∀H',NV H H'->Q (.str (S (eR D))) H')->qh vs H Q Z3
def PL.same(h:PL H d D gt kvs lp lm lk us)(s:NV H H'):PL H' d D gt kvs lp lm lk us:=
 ⟨s _ _ h.ed,h.v1,h.v2,h.v3,h.v4,h.v5,h.v6,h.v7,s _ _ h.ep,s _ _ h.em,s _ _ h.ek,bF (fun _ _ h'=>Qt.kp (ao s) (fun x us nx fs e _=>s _ _ e) h') h.ks⟩
section
def Op:av [R5,SY,SX,Sn,R7,Si,S8,S0] [R5] (ak iJ):=cV zk
def DJ:([SZ,Sn,R5]:TH).Nodup:=by decide +kernel
def Ho:(["_law_part"]:TH).Nodup:=by decide +kernel
def Hq:([Tg,Sv]:TH).Nodup:=by decide +kernel
inductive Al(d:Ts)(H:Hp)(D:Fm)(σ:St)(H':Hp):Prop
 |mk(lh:_):σ=[some (.ref d),some (.ref lh),none,none,none,none,none,none]->NV H H'->H' lh=some (.lst (dc (((mP D).take 3).map au)))->Al d H D σ H'
inductive Am(d:Ts)(H:Hp)(D:Fm)(σ:St)(H':Hp):Prop
 |mk(lh:_):σ=[some (.ref d),some (.ref lh),none,none,none,none,none,none]->NV H H'->H lh=none->H' lh=some (.lst (dc (((mP D).take 5).map au)))->Am d H D σ H'
inductive An(d:Ts)(H:Hp)(D:Fm)(σ:St)(H':Hp):Prop
 |mk(lh:_):σ=[some (.ref d),some (.ref lh),none,none,none,none,none,none]->NV H H'->H' lh=some (.lst (dc ((mP D).map au)))->An d H D σ H'
inductive Ao(d:Ts)(H:Hp)(D:Fm)(σ:St)(H':Hp):Prop
 |mk(lh lr:_):σ=[some (.ref d),some (.ref lh),some (.ref lr),none,none,none,none,none]->NV H H'->H lr=none->H' lr=some (.lst (dc (jl D [])))->Ao d H D σ H'
def Ap(F:Ob K "_law_text" "_law_text" iJ f fd)(B:Bl mg)(B3:EH mg)(DT:Fn P w K mg base "_law_deed_text" n [Si,R5,R7] (vV 4))(hn:1<=n):NZ P w K mg base bZ (n+1) f fd [R5] qh:=by
 have ZZ:=Op
 walk_at "o"
 ·obtain⟨d,D,gt,kvs,lp,lm,lk,us,fn,rfl,hV,hD,q⟩:=h;have hu:=eY hr;have sz:(200000:Nat)<=sizeLine:=by decide
  refine⟨_,bf (Al d H D) (bL (i:=1) Op.nd (aT (aa (aA aH ai (aV ej (by rfl) B.str cH (aa (aZ hu (pv 0) ai) ac))) (aa (aA aH ai (aV ej (by rfl) B.str cH (aa (aZ hu (pv 0) ai) ac))) (aa (aA aH ai (aV ej (by rfl) B.str cH (aa (aZ hu (pv 0) ai) ac))) ac)))))
   (bf (Am d H D) (bL (i:=1) Op.nd (aA dL (pv 1) (aT (aa (cu KR KY KW eB ai (aa (aA dL (aT (aa ai ac)) (aZ hu (pv 0) ai)) ac)) (aa (cu KR KY KW eB ai (aa (aA dL (aT (aa ai ac)) (aZ hu (pv 0) ai)) ac)) ac)))))
   (bf (An d H D) (aM (cu Kp Kk Kj bz (pv 1) (aa (cu KR KY KW eB ai (aa (aA dL (aT (aa ai ac)) (dQ (N':=[SZ,Sn,R5]) (ix:=[none,none,some 0]) (sc0:=ak iJ) (N:=[R5,SY,SX,Sn,R7,Si,S8,S0]) rfl zk (kE rfl B3.enumerate (aa (aZ hu (pv 0) ai) ac))
     (fun C' cl s H fp=>dh (K:=K) (n:=2) rfl rfl (aw (cG (i:=0) DJ) (aw (cG (i:=1) DJ) bB))) (fun _ _ _ _ _=>iC (ap aW (pv 0) (aZ hu (pv 2) ai))) (fun C' cl s H fp=>pv 1))) ac)) ac)))
   (bf (Ao d H D) (bL (i:=2) Op.nd (aT (aa (cu KR KY KW eB ai (aa (dQ (N':=["_law_part"]) (ix:=[none]) (sc0:=ak iJ) (N:=[R5,SY,SX,Sn,R7,Si,S8,S0]) rfl zk (de (pv 1))
     (fun C' cl s H fp=>cG (i:=0) Ho) (fun _ _ _ _ _=>dM) (fun C' cl s H fp=>aA aH (pv 0) ai)) ac)) ac)))
   (af (dB h_ rfl (de (aZ hu (pv 0) ai)) (dA rfl (aw (cG (i:=3) Op.nd) (aw (cG (i:=4) Op.nd) (aw (cG (i:=5) Op.nd) bB))))
    (af (bL (i:=6) Op.nd (cu KR KY KW eB ai (aa (dQ (N':=[Tg,Sv]) (ix:=[none,none]) (sc0:=ak iJ) (N:=[R5,SY,SX,Sn,R7,Si,S8,S0]) rfl zk (de (pv 4))
      (fun C' cl s H fp=>dh (K:=K) (n:=2) rfl rfl (aw (cG (i:=0) Hq) (aw (cG (i:=1) Hq) bB))) (fun _ _ _ _ _=>dM) (fun C' cl s H fp=>aA aH (aA aH (pv 0) ai) (pv 1))) ac)))
    (af (bL (i:=7) Op.nd (aA dL (aA dL (aT (aa ai (aa (pv 3) (aa ai ac)))) (dQ (N':=["_law_part"]) (ix:=[none]) (sc0:=ak iJ) (N:=[R5,SY,SX,Sn,R7,Si,S8,S0]) rfl zk (de (aT (aa (pv 6) ac)))
      (fun C' cl s H fp=>cG (i:=0) Ho) (fun _ _ _ _ _=>iC (ap qD (pv 0) ai)) (fun C' cl s H fp=>pv 0))) (aT (aa ai ac))))
    (aj (aM (cu Kp Kk Kj bz (pv 2) (aa (cu KR KY KW eB ai (aa (aA dL (pv 7) (aT (aa (ar DT hr rfl (aa (pv 5) (aa (pv 0) (aa (pv 4) ac)))) ac))) ac)) ac)))))))
   (aj (aq (cu KR KY KW eB ai (aa (pv 2) ac)))))))),?_⟩
  have UI:=hD.c64;have hw24:=hD.w24;have Wz:=hD.d8;refine⟨?_,?_⟩;rotate_left
  ·have z1:=qe (n:=D.width) zo;have z2:=qe (n:=D.cells) zo;have z3:=qe (n:=D.depth) zo;have y1:("word ":Str).length=5/\("cells ":Str).length=6/\("depth ":Str).length=6:=by decide +kernel
   refine⟨_,rfl,d,_,rfl,bj hV.ed hV.v1,_,rfl,ic zo,_,_,rfl,rfl,zo,?_⟩;refine⟨_,rfl,d,_,rfl,bj hV.ed hV.v2,_,rfl,ic zo,_,_,rfl,rfl,zo,?_⟩;refine⟨_,rfl,d,_,rfl,bj hV.ed hV.v3,_,rfl,ic zo,_,_,rfl,rfl,zo,?_⟩;refine⟨N5,fun lh nlh=>⟨lh,rfl,ag nlh,?_⟩⟩;rw[ae]
   congr 2
   have t1:=qf Fu.1 rfl (toString (D.width:Int):Str);have t2:=qf Fu.2.1 rfl (toString (D.cells:Int):Str);have t3:=qf Fu.2.2 rfl (toString (D.depth:Int):Str);rw[Fv.1]at t1;rw[Fv.2.1]at t2;rw[Fv.2.2]at t3;rw[t1,t2,t3];rfl
  rintro σ H1 ⟨lh,rfl,s1,e1⟩;have hp4:=hD.p4;have Y1:=hD.m3;have Yb:∀z∈D.places++D.marks,OH z:=fun z hz=>.name (hD.nf z (by rcases Ko.mp hz with h|h<;>simp[h])).1;refine⟨?_,?_⟩;rotate_left
  ·have V1:=hV.same s1;have jb:∀(w:Str)(zs:TH),OH w->(∀z∈zs,OH z)->zs.length<=10->(((w::zs).map cp).map List.length).sum+((w::zs).map cp).length*[32].length<=100000:=by
    intro w zs hw hz hl;exact(rQ (zs:=w::zs) (by simp;lia) (fun z U7=>by
     rcases J0.mp U7 with rfl|h
     ·have:=hw.le;lia
     ·have:=(hz z h).le;lia)).1
   refine⟨_,rfl,?_⟩;refine⟨rfl,N5,fun l2 n2=>?_⟩;generalize zz:aI H1 l2 _=H2;have s2:=(nw n2 zz).1;have e2:H2 l2=some (.lst (al [Sa])):=(nw n2 zz).2;clear zz;have V2:=V1.same s2;refine⟨_,rfl,d,_,rfl,bj V2.ed V2.v4,oa e2 V2.ep (by simp;lia) fun l3 H3 s3 n3 e3=>?_⟩;have e3':H3 l3=some (.lst (dc (((Sa:Str)::D.places).map cp))):=by rw[mx];exact e3
   refine⟨[32],l3,_,e_ V.str pP,rfl,N0.of e3',jb _ _ (.word zk) (fun z hz=>Yb z (by simp[hz])) zo,?_⟩;refine⟨rfl,N5,fun l4 n4=>?_⟩;generalize zz:aI H3 l4 _=H4;have s4:=(nw n4 zz).1;have e4:H4 l4=some (.lst (al [Sg])):=(nw n4 zz).2;clear zz;have V4:=(V2.same s3).same s4;refine⟨_,rfl,d,_,rfl,bj V4.ed V4.v5,oa e4 V4.em (by simp;lia) fun l5 H5 s5 n5 e5=>?_⟩;have Zl:H5 l5=some (.lst (dc (((Sg:Str)::D.marks).map cp))):=by rw[mx];exact e5
   refine⟨[32],l5,_,e_ V.str pP,rfl,N0.of Zl,jb _ _ (.word zk) (fun z hz=>Yb z (by simp[hz])) zo,?_⟩;refine⟨N5,fun l6 n6=>?_⟩;have s6:=ag (o:=.lst (dc [au ((Sa:Str)::D.places),au ((Sg:Str)::D.marks)])) n6;have e6:(aI H5 l6 (.lst (dc [au ((Sa:Str)::D.places),au ((Sg:Str)::D.marks)]))) l6=some (.lst (dc [au ((Sa:Str)::D.places),au ((Sg:Str)::D.marks)])):=ae;have X_:=(((s2.trans s3).trans s4).trans s5).trans s6;refine⟨lh,l6,_,_,rfl,rfl,X_ _ _ e1,e6,by rw[cY,cY];simp[mP];lia,fun l7 n7=>?_⟩;refine⟨l7,rfl,(s1.trans X_).trans (ag n7),(s1.trans X_).free n7,?_⟩;rw[ae];rfl
  rintro σ H1 ⟨lh,rfl,s1,nlh,e1⟩;refine⟨?_,?_⟩;rotate_left
  ·have V1:=hV.same s1;refine⟨_,rfl,.inl ⟨rfl,_,N0.of e1⟩,?_⟩;refine⟨rfl,N5,fun l2 n2=>?_⟩;generalize zz:aI H1 l2 _=H2;have s2:=(nw n2 zz).1;have e2:H2 l2=some (.lst (al [Sx])):=(nw n2 zz).2;clear zz;have V2:=V1.same s2;refine⟨_,rfl,d,_,rfl,bj V2.ed V2.v5,lm,rfl,⟨_,N0.of V2.em⟩,?_⟩;refine kL (K:=K) (l:=lm) (xs:=al D.marks) (fun i ys H'=>NV H2 H'/\ys=al (Aj D.marks gt i)) ⟨NV.refl _,by cases gt<;>rfl⟩ (fun i ys H' hi⟨s',e'⟩=>⟨N0.of (s' _ _ V2.em),by
     rw[e',eQ];have:(Aj D.marks gt i).length<=1:=by
      cases gt with
      |none=>exact KO _
      |some g=>show(if g<i then _ else _:TH).length<=1;split<;>simp
     lia⟩) ?_ ?_
   ·rintro i x ys H3 T1 hx nT ⟨s3,rfl⟩;obtain⟨z,hz,rfl⟩:=vL hx;have Md:=(JV.mp hx).1;have s4:=ag (o:=.tup [.int (i:Int),.str z]) nT;have V4:=(V2.same s3).same s4;refine⟨T1,_,rfl,NY.of ae,rfl,_,_,rfl,_,_,rfl,rfl,⟨rfl,trivial⟩,?_⟩;have VR:xX (V.int (i:Int)) (gV gt)=true:=by cases gt<;>rfl
    refine⟨_,rfl,_,rfl,d,_,rfl,bj V4.ed V4.v6,VR,_,rfl,bW (fun h=>?_) (fun h=>?_)⟩
    ·refine⟨_,rfl,Nx.mk Md ⟨s3.trans s4,?_⟩⟩;have h':decide (V.int (i:Nat)=gV gt)=true:=h;rw[oy hz,g_ h',<-rO];rfl
    ·refine Nx.mk Md ⟨s3.trans s4,?_⟩;have h':¬decide (V.int (i:Nat)=gV gt)=true:=h;rw[oy hz,f_ h',KB]
   ·rintro ys H3 ⟨s3,rfl⟩ l4 n4;rw[eQ,Ak hD.gb,<-hD.ga];generalize zz:aI H3 l4 _=H4;have s4:=(nw n4 zz).1;have e4:H4 l4=some (.lst (al D.gates)):=(nw n4 zz).2;clear zz;have Y':D.gates.length<=1:=by rw[hD.ga];cases gt<;>simp[gL]
    have hgS:∀z∈D.gates,OH z:=by
     intro z hz;rw[hD.ga]at hz;cases Ua:gt with
     |none=>rw[Ua]at hz;cases hz
     |some g=>
      rw[Ua]at hz;have Wx:=hD.gb g Ua;rw[Kz.mp hz,Kv,J1 Wx];exact Yb _ (Km _ (KJ Wx))
    refine oa ((s3.trans s4) _ _ e2) e4 (by simp;lia) fun l5 H5 s5 n5 e5=>?_;have Zl:H5 l5=some (.lst (dc (((Sx:Str)::D.gates).map cp))):=by rw[mx];exact e5
    refine⟨[32],l5,_,e_ V.str pP,rfl,N0.of Zl,(rQ (zs:=(Sx:Str)::D.gates) (by simp;lia) (fun z U7=>by
     rcases J0.mp U7 with rfl|h
     ·decide +kernel
     ·have:=(hgS z h).le;lia)).1,?_⟩
    have Z1:=((s2.trans s3).trans s4).trans s5;refine⟨lh,_,_,rfl,rfl,Z1 _ _ e1,by rw[cY];simp[mP];lia,lh,rfl,ci nlh (s1.trans Z1),?_⟩;rw[ae];rfl
  rintro σ H1 ⟨lh,rfl,s1,e1⟩;have Yn:∀g∈mP D,(au g).length<=100:=by
   intro g hg;have hk:g.length<=10/\∀z∈g,OH z:=by
    have hgt1:D.gates.length<=1:=by rw[hD.ga];cases gt<;>simp[gL]
    have hgS:∀z∈D.gates,OH z:=by
     intro z hz;rw[hD.ga]at hz;cases Ua:gt with
     |none=>rw[Ua]at hz;cases hz
     |some g=>
      rw[Ua]at hz;have Wx:=hD.gb g Ua;rw[Kz.mp hz,Kv,J1 Wx];exact Yb _ (Km _ (KJ Wx))
    unfold mP at hg;simp only[J0,Kc,l_]at hg;rcases hg with rfl|rfl|rfl|rfl|rfl|rfl
    ·refine⟨by simp,fun z hz=>?_⟩;simp only[J0,Kc,l_]at hz;rcases hz with rfl|rfl
     ·exact .word zk
     ·exact .num zo
    ·refine⟨by simp,fun z hz=>?_⟩;simp only[J0,Kc,l_]at hz;rcases hz with rfl|rfl
     ·exact .word zk
     ·exact .num zo
    ·refine⟨by simp,fun z hz=>?_⟩;simp only[J0,Kc,l_]at hz;rcases hz with rfl|rfl
     ·exact .word zk
     ·exact .num zo
    ·refine⟨by simp;lia,fun z hz=>?_⟩;rcases J0.mp hz with rfl|h
     ·exact .word zk
     ·exact Yb z (by simp[h])
    ·refine⟨by simp;lia,fun z hz=>?_⟩;rcases J0.mp hz with rfl|h
     ·exact .word zk
     ·exact Yb z (by simp[h])
    ·refine⟨by simp;lia,fun z hz=>?_⟩;rcases J0.mp hz with rfl|h
     ·exact .word zk
     ·exact hgS z h
   have:=bG hk.2;lia
  refine⟨?_,?_⟩;rotate_left
  ·refine⟨rfl,_,rfl,lh,rfl,⟨_,N0.of e1⟩,?_⟩;refine eu (K:=K) (a:=lh) (xs:=dc ((mP D).map au)) (fun i ys H'=>H'=H1/\ys=dc (((mP D).take i).map fun g=>au (g++[(";":Str)]))) ⟨rfl,rfl⟩ (fun i ys H' hi⟨a1,a2⟩=>by
     subst a1 a2;refine⟨N0.of e1,?_⟩;rw[cY,JY,J9];simp[mP];lia) ?_ ?_
   ·rintro i x ys H2 hx ⟨rfl,rfl⟩;obtain⟨g,hg,rfl⟩:∃g,(mP D)[i]?=some g/\x=.str (S (au g)):=by
     unfold dc at hx;rw[Kl,Kl]at hx;cases e:(mP D)[i]? with
     |none=>rw[e]at hx;cases hx
     |some g=>rw[e]at hx;exact⟨g,rfl,(Kw hx).symm⟩
    have Md:=(JV.mp hx).1;have Wx:=Yn g (Kg hg);have Y9:g≠[]:=by
     have hm:=Kg hg;unfold mP at hm;simp only[J0,Kc,l_]at hm;rcases hm with rfl|rfl|rfl|rfl|rfl|rfl<;>simp
    refine⟨trivial,dN ?_⟩;refine⟨_,rfl,_,_,rfl,e_ V.str ff.2.2.2.2.2.2,by rw[aG,aG];simp;lia,?_⟩;rw[bJ];refine Nx.mk Md ⟨rfl,?_⟩;rw[KE,hg,Kb];unfold dc;rw[Kb];have e9:au (g++[(";":Str)])=au g++[32,59]:=by
     rw[dU Y9 (by simp),cS];have:cp (";":Str)=[59]:=by decide +kernel
     rw[this]
    show _++[V.str (S (au g++[32,59]))]=_++[V.str (S (au (g++[(";":Str)])))];rw[e9]
   ·rintro ys H2 ⟨rfl,rfl⟩ l3 n3;have e6:(dc ((mP D).map au)).length=(mP D).length:=by rw[cY,JY]
    rw[e6,Ky];generalize zz:aI H2 l3 _=H3;have s3:=(nw n3 zz).1;have e3:H3 l3=some (.lst (dc ((mP D).map fun g=>au (g++[(";":Str)])))):=(nw n3 zz).2;clear zz;refine⟨[32],l3,_,e_ V.str pP,rfl,N0.of e3,?_,N5,fun lr Z'=>?_⟩
    ·have:=iO 110 ((mP D).map fun g=>au (g++[(";":Str)])) (fun t ht=>by
      obtain⟨g,hg,rfl⟩:=Kr.mp ht;have h1:=Yn g hg;have Y9:g≠[]:=by
       unfold mP at hg;simp only[J0,Kc,l_]at hg;rcases hg with rfl|rfl|rfl|rfl|rfl|rfl<;>simp
      rw[dU Y9 (by simp),cS];have:cp (";":Str)=[59]:=by decide +kernel
      rw[this];simp;lia)
     have h6:((mP D).map fun g=>au (g++[(";":Str)])).length=6:=rfl;rw[h6]at this⊢;simp only[JX,Ke];lia
    ·have s4:=ag (o:=.lst [V.str (S (au (fc D)))]) Z';have eh:=CS D;refine⟨lh,lr,rfl,?_,?_,?_⟩
     ·rw[eh];exact(s1.trans s3).trans s4
     ·exact(s1.trans s3).free Z'
     ·rw[ae,eh];rfl
  rintro σ H1 ⟨lh,lr,rfl,s1,Z',e1⟩;obtain⟨mc,mk,hMd,hKl⟩:=hD.kl;have Xr:=ki hMd;have V1:=hV.same s1;have hFl:=mJ hD;refine⟨_,rfl,d,_,rfl,bj V1.ed V1.v7,lk,rfl,⟨_,N0.of V1.ek⟩,?_⟩;refine lC (K:=K) (a:=lk) (xs:=us) (fun i σ H'=>∃v3 v4 v5 v6 v7:Option V,σ=[some (.ref d),some (.ref lh),some (.ref lr),v3,v4,v5,v6,v7]/\NV H H'/\H' lr=some (.lst (dc (jl D (D.kinds.take i))))) ⟨_,_,_,_,_,rfl,s1,e1⟩ (fun i σ H' _⟨_,_,_,_,_,_,s',_⟩=>N0.of (s' _ _ hV.ek)) ?_ ?_
  ·rintro i y σ H2 hy ⟨v3,v4,v5,v6,v7,rfl,s2,e2⟩;obtain⟨x,hx,t,lf,b,rfl,Wv,ht,⟨fu,U8,Za⟩,hb⟩:=gq hV.ks hy;have VG:=Kg hx;have Y8:=(JV.mp hx).1;have G:=ot hD VG;have M':=mL hD VG;have hf3:=uv hD VG;have hK:=hKl x VG;refine⟨t,_,rfl,NY.of (s2 _ _ ht),rfl,_,_,rfl,_,_,rfl,_,_,rfl,rfl,?_⟩;refine⟨rfl,_,rfl,lf,rfl,⟨_,N0.of (s2 _ _ U8)⟩,?_⟩;have W2:∀f∈x.fs,f.1.length<=8/\f.2.length<=8:=fun f hf=>CQ f (G.f f hf).1 (M' f hf);have TY:=uA Za;refine eu (K:=K) (a:=lf) (xs:=fu) (fun j ys H'=>H'=H2/\ys=dc (nq (x.fs.take j))) ⟨rfl,rfl⟩ (fun j ys H' hj⟨a1,a2⟩=>by
     subst a1 a2;refine⟨N0.of (s2 _ _ U8),?_⟩;rw[cY];unfold nq;rw[JY,J9];lia) ?_ ?_
   ·rintro j u ys H3 hu ⟨rfl,rfl⟩;obtain⟨f,hf,pf,rfl,U3⟩:=gq Za hu;have WY:=(JV.mp hu).1;obtain⟨l1,l2⟩:=W2 f (Kg hf);obtain⟨E1,E2⟩:=Jj f;have UC:(" ":Str).length=1:=by decide +kernel
    refine⟨pf,_,rfl,NY.of (s2 _ _ U3),rfl,_,_,rfl,_,_,rfl,rfl,trivial,dN ?_⟩;refine⟨_,rfl,_,_,rfl,rfl,zo,_,rfl,S (cp f.1++[32]),f.2,e_ V.str E1,rfl,by rw[aG,JU,qd];simp;lia,?_⟩;rw[E2];refine Nx.mk WY ⟨rfl,?_⟩;rw[KE,hf];unfold nq dc;simp
   ·rintro ys H3 ⟨rfl,rfl⟩ l3 n3;rw[TY,Ky];generalize zz:aI H3 l3 _=H4;have s3:=(nw n3 zz).1;have e3:H4 l3=some (.lst (dc (nq x.fs))):=(nw n3 zz).2;clear zz;refine⟨[32,44,32],l3,_,e_ V.str Ji,rfl,N0.of e3,?_,?_⟩
    ·have:=iO 17 (nq x.fs) (fun t ht=>by
      obtain⟨f,hf,rfl⟩:=Kr.mp ht;obtain⟨l1,l2⟩:=W2 f hf;rw[JU,JX,qd,qd];lia)
     have Xv:(nq x.fs).length=x.fs.length:=by unfold nq;rw[JY]
     rw[Xv]at this⊢;simp only[JX,Ke];lia
    rw[Ah];refine⟨_,rfl,N5,fun l4 n4=>?_⟩;have s4:=ag (o:=.lst [V.str So,.str x.name,.str "("]) n4;have e4:(aI H4 l4 (.lst [V.str So,.str x.name,.str "("])) l4=some (.lst (dc [cp So,cp x.name,cp "("])):=by
     have:=mx [(So:Str),x.name,("(":Str)];rw[show dc [cp So,cp x.name,cp "("]=al [(So:Str),x.name,("(":Str)]from this];exact ae
    generalize aI H4 l4 (.lst [V.str So,.str x.name,.str "("])=H5 at*;refine⟨_,rfl,N5,fun l5 n5=>?_⟩;generalize zz:aI H5 l5 _=H6;have⟨s5,e5⟩:=nw n5 zz;clear zz;refine⟨l5,rfl,⟨_,N0.of e5⟩,?_⟩;refine eu (K:=K) (a:=l5) (xs:=[V.str (S (au (dI x.fs)))]) (fun j ys H'=>H'=H6/\ys=if j=0 then []else dc ((sd x.fs).map au)) ⟨rfl,rfl⟩ (fun j ys H' hj⟨a1,a2⟩=>by
      subst a1 a2;refine⟨N0.of e5,?_⟩;split
      ·exact KO _
      ·rw[cY,JY];unfold sd;split<;>simp<;>lia) ?_ ?_
    ·rintro j u ys H7 hu ⟨rfl,rfl⟩;have hj0:j=0:=by
      have:=(JV.mp hu).1;simpa using this
     subst hj0;obtain rfl:V.str (S (au (dI x.fs)))=u:=by simpa using hu
     refine⟨trivial,?_⟩;refine⟨_,rfl,rfl,_,rfl,bW (fun h=>?_) (fun h=>?_)⟩
     ·refine⟨_,rfl,Nx.mk (by simp) ⟨rfl,?_⟩⟩;have Ma:¬x.fs=[]:=fun e=>by
       have:=(ow x.fs).mpr e;rw[this]at h;revert h;decide +kernel
      unfold sd;rw[f_ Ma];rfl
     ·refine Nx.mk (by simp) ⟨rfl,?_⟩;have he:x.fs=[]:=by
       by_cases e:x.fs=[]
       ·exact e
       ·exfalso;apply h;have:V.str (S (au (dI x.fs)))≠V.str "":=fun z=>e ((ow x.fs).mp (V.str.inj z));simpa using this
      unfold sd;rw[g_ he];rfl
    ·rintro ys H7 ⟨rfl,rfl⟩ l8 n8;rw[f_ (by simp)];generalize zz:aI H7 l8 _=H8;have s8:=(nw n8 zz).1;have e8:H8 l8=some (.lst (dc ((sd x.fs).map au))):=(nw n8 zz).2;clear zz;have hi1:((sd x.fs).map au).length<=1:=by
      rw[JY];unfold sd;split<;>simp
     refine Ai ((s5.trans s8) _ _ e4) e8 (by simp only[JX,Ke];lia) fun l9 H9 s9 n9 e9=>?_;refine⟨N5,fun l10 n10=>?_⟩;have X':=ag (o:=.lst [V.str ")"]) n10;have e10:(aI H9 l10 (.lst [V.str ")"])) l10=some (.lst (dc [cp ")"])):=by
      rw[show dc [cp ")"]=al [(")":Str)]from mx [(")":Str)]];exact ae
     generalize aI H9 l10 (.lst [V.str ")"])=H10 at*;refine Ai (X' _ _ e9) e10 (by simp only[JU,JX,Ke];lia) fun l11 H11 VE n11 e11=>?_;have Wc:=(((((s3.trans s4).trans s5).trans s8).trans s9).trans X').trans VE;have UX:=s2.trans Wc;have Zm:=Wc _ _ e2;refine⟨_,rfl,.inl ⟨rfl,_,N0.of Zm⟩,?_⟩;refine⟨rfl,_,rfl,_,rfl,_,rfl,_,rfl,b,d,lf,D.width,D.places,D.marks,x.fs,x.dd,mk-1,rfl,hb.kt (ao UX),⟨⟨_,_,_,UX _ _ hV.ed,hV.v1,hV.v4,hV.v5,UX _ _ hV.ep,UX _ _ hV.em⟩,Qg.same ⟨fu,U8,Za⟩ UX,hD.w24,G⟩,zo,zd,CD hK.dd (show mc<=3 by lia),fun H12 Mc=>?_⟩;rw[<-hK.bd];refine⟨N5,fun l13 n13=>?_⟩;generalize zz:aI H12 l13 _=H13;have Wq:=(nw n13 zz).1;have e13:H13 l13=some (.lst (dc [au (db x.bd)])):=(nw n13 zz).2;clear zz;refine Ai ((Mc.trans Wq) _ _ e11) e13 (by simp only[JU,JX,Ke];lia) fun l14 H14 Z2 n14 e14=>?_;have Xx:(au (db x.bd)).length<=9*(db x.bd).length:=bG fun z hz=>qb hD VG z (Km _ hz);have hbl2:(db x.bd).length<=(dF D).length:=by
      have h1:=jm VG;have h2:(db x.bd).length<=(cj x).length:=by unfold cj;rw[JU];lia
      unfold dF;rw[JU];lia
     have hil2:∀t∈(sd x.fs).map au,t.length<=200:=by
      intro t ht;obtain⟨g,hg,rfl⟩:=Kr.mp ht;unfold sd at hg;split at hg
      ·cases hg
      ·rw[Kz.mp hg];have:=bG (zs:=dI x.fs) (z9 fun f hf=>⟨(G.f f hf).1,M' f hf⟩);rw[jv]at this;lia
     have hnl:(cp x.name).length<=8:=(hD.kf x VG).1.len;refine⟨[32],l14,_,e_ V.str pP,rfl,N0.of e14,?_,?_⟩
     ·have U2:=iO 14000 ([cp So,cp x.name,cp "("]++(sd x.fs).map au++[cp ")"]++[au (db x.bd)]) (fun t ht=>by
       simp only[Ko,J0,Kc,l_]at ht;rcases ht with(((rfl|rfl|rfl)|ht)|rfl)|rfl
       ·decide +kernel
       ·lia
       ·decide +kernel
       ·have:=hil2 t ht;lia
       ·decide +kernel
       ·lia)
      have LS:([cp So,cp x.name,cp "("]++(sd x.fs).map au++[cp ")"]++[au (db x.bd)]).length<=6:=by
       simp only[JU,JX,Ke];lia
      have h6:=Rq 14000 LS;generalize ([cp So,cp x.name,cp "("]++(sd x.fs).map au++[cp ")"]++[au (db x.bd)])=ts at*;simp only[JX,Ke];lia
     rw[CU x];have W':=((Wc.trans Mc).trans Wq).trans Z2;refine⟨lr,_,_,rfl,rfl,W' _ _ e2,?_,?_⟩
     ·rw[cY];unfold jl;rw[JX,JY,J9];lia
     refine⟨_,_,_,_,_,rfl,ci Z' (s2.trans W'),?_⟩;rw[ae]
     congr 2
     unfold jl dc;rw[KE,hx];simp
  ·rintro σ H2 ⟨v3,v4,v5,v6,v7,rfl,s2,e2⟩;rw[uA hV.ks,Ky]at e2;refine⟨rfl,_,rfl,[10],lr,jl D D.kinds,e_ V.str IY,rfl,N0.of e2,?_,q _ s2⟩;have hh:=bG (vX hD);have h5:=w8 (zs:=D.kinds) fun x hx=>by
    have:=bG (qb hD hx);lia
   unfold jl;rw[Kd,Lz,JX,JY];simp only[JX,Ke];have h6:(fc D).length+(D.kinds.flatMap cj).length<=1500:=by
    unfold dF at hFl;rw[JU]at hFl;exact hFl
   lia
end
def iX:∀l:TH,PyData.depthAll (l.map PyData.str)<=0
 |[]=>by simp[PyData.depthAll]
 |x::r=>by
  have:=iX r;simp only[Kd,PyData.depthAll,PyData.depth];lia
def Hr:Ee->PyData
 |.w0 s=>.tuple [.str s]
 |.fault z=>.tuple [.str Sk,.str z]
 |.go s j=>.tuple [.str s,.int (j:Nat)]
def Hs(t:Tt):PyData:=.tuple [.str (GY t),.tuple [.str (jX (Dx t).1),.int ((Dx t).2:Nat)]]
def Bi:Dd->PyData
 |.leaf s e=>.tuple [.str "leaf",.tuple (s.map zF),Hr e]
 |.ite t y n=>.tuple [.str Tn,Hs t,Bi y,Bi n]
def Aq(x:Kn):PyData:=.tuple [.str x.name,.tuple (x.fs.map fun f=>.tuple [.str f.1,.str f.2]),Bi x.dd]
def DK(D:Fm):PyData:=match D.gates with
 |[]=>.none
 |z::_=>.str z
def kj(D:Fm):List PyData:=[.int (D.width:Nat),.int (D.cells:Nat),.int (D.depth:Nat),.tuple (D.places.map PyData.str),.tuple (D.marks.map PyData.str),DK D,.tuple (D.kinds.map Aq)]
def QP.td(h:QP H e v)(ho:ko fs e):Td H v (Hr e):=by
 cases e with
 |w0 s=>
  obtain⟨p,rfl,e⟩:=h;have:∀z∈([SJ,SK,SN]:TH),kD z=true:=by decide +kernel
  exact .tup e (.cons (.str _ (this s ho)) .nil)
 |fault z=>
  obtain⟨p,rfl,e⟩:=h;exact .tup e (.cons (.str _ zk) (.cons (.str _ (dS ho.1)) .nil))
 |go s j=>
  obtain⟨p,rfl,e⟩:=h;have:∀z∈([S5,Su]:TH),kD z=true:=by decide +kernel
  exact .tup e (.cons (.str _ (this s ho.1)) (.cons (.int _) .nil))
def Fw(t:Tt):kD (GY t)=true:=by
 cases t with
 |top b n=>show kD S3=true;decide +kernel
 |pl b n=>show kD R9=true;decide +kernel
 |mk b n=>show kD Sc=true;decide +kernel
def QQ.td(h:QQ H t v):Td H v (Hs t):=by
 obtain⟨p,u,rfl,e,hs⟩:=h;exact .tup e (.cons (.str _ (Fw t)) (.cons hs.td .nil))
def Pp.td:∀{c:Nat}{d:Dd}{v:V},Pp H d v->eD W ps ms fs m c d->Td H v (Bi d)
 |c,.leaf s e,v,h,ho=>by
  have h':s.length<=4/\(s.filter Sd.isCell).length<=1/\(∀g∈s,eU W ps ms fs m g)/\ko fs e:=by cases c<;>exact ho
  obtain⟨p,q,us,u,rfl,e1,e2,hp,he⟩:=h;exact .tup e1 (.cons (.str _ zk) (.cons (.tup e2 (uf hp h'.2.2.1)) (.cons (he.td h'.2.2.2) .nil)))
 |0,.ite _ _ _,_,_,ho=>absurd ho (by simp[eD])
 |c+1,.ite t y n,v,h,ho=>by
  obtain⟨p,u,a,b,rfl,e1,ht,hy,hn⟩:=h;exact .tup e1 (.cons (.str _ zk) (.cons ht.td (.cons (Pp.td (c:=c) hy ho.2.1) (.cons (Pp.td (c:=c) hn ho.2.2) .nil))))
def kW:∀{us:TQ}{fs:TM},Paired (Oh H) us fs->(∀f∈fs,kD f.1=true/\kD f.2=true)->Od H us (fs.map fun f=>PyData.tuple [.str f.1,.str f.2])
 |_,_,.nil,_=>.nil
 |_,_,.cons ⟨p,e,h⟩ t,ho=>by
  subst e;have h0:=ho _ JW;exact .cons (.tup h (.cons (.str _ h0.1) (.cons (.str _ h0.2) .nil))) (kW t fun f hf=>ho f (JZ _ hf))
def OI.td(hD:iU D fn gt)(hx:x∈D.kinds)(h:OI H u x):Td H u (Aq x):=by
 obtain⟨c,k,hm,hk⟩:=hD.kl;obtain⟨p,tf,b,us,rfl,e1,e2,hp,hb⟩:=h;have so:∀z∈dq,kD z=true:=by decide +kernel
 exact .tup e1 (.cons (.str _ (dS (hD.kf x hx).1)) (.cons (.tup e2 (kW hp fun f hf=>⟨dS ((ot hD hx).f f hf).1,so _ (mL hD hx f hf)⟩)) (.cons (hb.td (hk x hx).dd) .nil)))
def Ar:∀{us:TQ}{l:List Kn},Paired (OI H) us l->(∀x∈l,∀u,OI H u x->Td H u (Aq x))->Od H us (l.map Aq)
 |_,_,.nil,_=>.nil
 |_,_,.cons h t,ho=>.cons (ho _ JW _ h) (Ar t fun x hx=>ho x (JZ _ hx))
def qi:∀{l:TH},(∀z∈l,kD z=true)->Od H (al l) (l.map PyData.str)
 |[],_=>.nil
 |z::r,h=>.cons (.str z (h z JW)) (qi fun x hx=>h x (JZ _ hx))
inductive Ol(H:Hp)(v:V)(D:Fm):Prop
 |mk(p pp pm pk us:_):v=.ref p->H p=some (.tup [.int D.width,.int D.cells,.int D.depth,.ref pp,.ref pm,cD D,.ref pk])->H pp=some (.tup (al D.places))->H pm=some (.tup (al D.marks))->H pk=some (.tup us)->Paired (OI H) us D.kinds->Ol H v D
def Ol.kt(k:N9 H H')(h:Ol H v D):Ol H' v D:=
 let⟨p,pp,pm,pk,us,e,a,b,c,d,f⟩:=h
 ⟨p,pp,pm,pk,us,e,k _ _ a,k _ _ b,k _ _ c,k _ _ d,bF (fun _ _ h=>OI.kt k h) f⟩
def ij:∀{ds:List PyData},(∀d∈ds,d.depth<=b)->PyData.depthAll ds<=b
 |[],_=>by simp[PyData.depthAll]
 |d::r,h=>by
  have h1:=h d JW;have h2:=ij fun x hx=>h x (JZ _ hx);simp only[PyData.depthAll];lia
def Ht(h:eU W ps ms fs m g):(zF g).depth<=m+6:=by
 cases g with
 |cell a e=>
  have h1:=iS h.1;have h2:=iS h.2;simp only[zF,PyData.depth,PyData.depthAll];lia
 |pl b n e=>
  have h2:=iS h.2;have h3:=zE b n;simp only[zF,PyData.depth,PyData.depthAll]at h3⊢;lia
 |mk b n e=>
  have h2:=iS h.2;have h3:=zE b n;simp only[zF,PyData.depth,PyData.depthAll]at h3⊢;lia
def sf:∀{c:Nat}{d:Dd},eD W ps ms fs m c d->(Bi d).depth<=m+8+c
 |c,.leaf s e,h=>by
  have h':s.length<=4/\(s.filter Sd.isCell).length<=1/\(∀g∈s,eU W ps ms fs m g)/\ko fs e:=by cases c<;>exact h
  have h1:PyData.depthAll (s.map zF)<=m+6:=ij fun d hd=>by
   obtain⟨g,hg,rfl⟩:=Kr.mp hd;exact Ht (h'.2.2.1 g hg)
  have h2:(Hr e).depth<=1:=by cases e<;>simp[Hr,PyData.depth,PyData.depthAll]
  simp only[Bi,PyData.depth,PyData.depthAll];lia
 |0,.ite _ _ _,h=>absurd h (by simp[eD])
 |c+1,.ite t y n,h=>by
  have h1:=sf (c:=c) h.2.1;have h2:=sf (c:=c) h.2.2;have h3:(Hs t).depth<=2:=by simp[Hs,PyData.depth,PyData.depthAll]
  simp only[Bi,PyData.depth,PyData.depthAll];lia
def CV(hD:iU D fn gt):(PyData.tuple (kj D)).depth<=60:=by
 obtain⟨c,k,hm,hk⟩:=hD.kl;have Xr:=ki hm;have h1:=iX D.places;have h2:=iX D.marks;have h3:(DK D).depth<=0:=by
  unfold DK;split<;>simp[PyData.depth]
 have h4:PyData.depthAll (D.kinds.map Aq)<=20:=ij fun d hd=>by
  obtain⟨x,hx,rfl⟩:=Kr.mp hd;have h5:=sf (hk x hx).dd;have h6:PyData.depthAll (x.fs.map fun f=>PyData.tuple [.str f.1,.str f.2])<=1:=ij fun d hd=>by
   obtain⟨f,hf,rfl⟩:=Kr.mp hd;simp[PyData.depth,PyData.depthAll]
  simp only[Aq,PyData.depth,PyData.depthAll];lia
 simp only[kj,PyData.depth,PyData.depthAll];lia
def Ol.dt(hD:iU D fn gt)(h:Ol H v D):Dt K H v (.tuple (kj D))/\(PyData.tuple (kj D)).canLay0=true/\PyData.eqv (.tuple (kj D)) (.tuple (kj D))=true:=by
 obtain⟨p,pp,pm,pk,us,rfl,e,e1,e2,e3,hk⟩:=h;have oP:∀z∈D.places,kD z=true:=fun z hz=>dS (hD.nf z (by simp[hz])).1;have oM:∀z∈D.marks,kD z=true:=fun z hz=>dS (hD.nf z (by simp[hz])).1;have t1:Td H (.ref pp) (.tuple (D.places.map PyData.str)):=.tup e1 (qi oP);have t2:Td H (.ref pm) (.tuple (D.marks.map PyData.str)):=.tup e2 (qi oM);have t3:Td H (.ref pk) (.tuple (D.kinds.map Aq)):=.tup e3 (Ar hk fun x hx u hu=>hu.td hD hx);have tg:Dt K H (cD D) (DK D)/\(DK D).canLay0=true/\PyData.eqv (DK D) (DK D)=true:=by
  have hgm:=jw hD;unfold cD DK;cases eg:D.gates with
  |nil=>exact⟨.non,rfl,by simp[PyData.eqv]⟩
  |cons z r=>exact⟨.str z,oM z (hgm z (by rw[eg];simp)),by simp[PyData.eqv]⟩
 refine⟨.tup (NY.of e) (.cons (.int _) (.cons (.int _) (.cons (.int _) (.cons t1.dt (.cons t2.dt (.cons tg.1 (.cons t3.dt .nil))))))),?_,?_⟩
 ·simp only[kj,PyData.canLay0,PyData.canLayAll0,tg.2.1,Bool.and_true,Bool.true_and];have l1:=t1.lay;have l2:=t2.lay;have l3:=t3.lay;simp only[PyData.canLay0]at l1 l2 l3;rw[l1,l2,l3];rfl
 ·have l1:=t1.eqv;have l2:=t2.eqv;have l3:=t3.eqv;simp only[kj,PyData.eqv,PyData.eqvAll]at l1 l2 l3⊢;rw[l1,l2,l3,tg.2.2];simp
def CW(hD:iU D fn gt)(h1:Ol H v D)(h2:Ol H u D)(q:Q (.bl false) H):QE K v u H Q:=by
 obtain⟨a1,a2,a3⟩:=h1.dt (K:=K) hD;obtain⟨b1,b2,b3⟩:=h2.dt (K:=K) hD;have:=CV hD;refine⟨_,_,a1,b1,a2,b2,zo,?_⟩;rw[a3];exact q
inductive As(C:Ts)(vs:TQ)(H:Hp)(Q:VK)(Z3:XK):Prop
 |mk(v D:_):vs=[v]->Oq C H v D->(∀u H',NV H H'->Ol H' u D->Q u H')->As C vs H Q Z3
def v0:∀vs H Q E,As C vs H Q E->ia C vs H Q E:=by
 rintro vs H Q E ⟨v,D,rfl,⟨a,dx,pp,pm,pn,pk,us,rfl,ho,VH,Wl,VI,Ws,L9⟩,q⟩;exact⟨a,dx,D,pp,pm,pn,pk,rfl,ho,fun p H' s e=>q _ _ s ⟨p,pp,pm,pk,us,rfl,e,s _ _ VH,s _ _ Wl,s _ _ Ws,bF (fun _ _ h=>OI.kt (ao s) h) L9⟩⟩
def Oq.but(h:Oq C H v D)(g:N6 H p)(b:Of p H H'):Oq C H' v D:=by
 obtain⟨a,dx,pp,pm,pn,pk,us,e,h1,h2,h3,h4,h5,h6⟩:=h;have k:N9 H H':=fun x ys e=>b _ _ e (bv g e (fun _ _ _ z=>by cases z));exact⟨a,dx,pp,pm,pn,pk,us,e,b _ _ h1 (bv g h1 (fun _ _ _ z=>by cases z)),k _ _ h2,k _ _ h3,k _ _ h4,k _ _ h5,bF (fun _ _ h=>OI.kt k h) h6⟩
def Hu(g:N6 H p)(b:Of p H H'):N9 H H':=fun x ys e=>b _ _ e (bv g e (fun _ _ _ z=>by cases z))
end L3
namespace XB
open PySem PySem.W PySem.Calls PyProof.Rows Builtin Builtin.ObjectAttr
abbrev bmV:List Tr:=[.type "ValueError",.type "Exception",.type "BaseException",.type "object"]
section
variable{prog:Tv}{w:Tw}{A:Tz}{E:Tr->Tu->Prop}{s:Tu}{K:Frag}{x C:Ts}{ox:Obj}{od:Option Obj}{name:Str}{expr:Bool}
variable{R:Result->Tu->Prop}{v:Tr}
def QL{tk:Tok}(X:K.In s.heap)(I:InstAt s.heap x ox C od)(hb:mroIn K C (.type "BaseException")=some true)(hf:findObj K C od name=some (.value v))(hq:R (.ok (.ret v)) s):
  codeAny (model prog w) A (.call (.builtin "BaseException.__getattribute__") ⟨[.ref x,.str name tk],[]⟩) R s:=by
 refine Q_ F.attr_ValueError.ga.plain F.entry_bexc_ga ?_;refine @check_slot (model prog w) _ _ s "BaseException.__getattribute__" "BaseException" "__getattribute__" (.ref x) [.str name tk] [] _ zk zk (I.type.andThen (looks_mroIn X hb)) (F.args_bexc_ga (.ref x) (.str name tk)) ?_;obtain⟨hh,g,d,t,os⟩:=s;have L0:=I.type (M:=model prog w);have L1:=looks_find (M:=model prog w) X I hf;refine a_ (c_ (a_ (c_ (a_ (L0.at (a_ (L1.at ?_)))))));exact c_ hq
def Qw{tk:Tok}{g a:Tr}{R:Result->Tu->Prop}(X:K.In s.heap)(I:InstAt s.heap x ox C od)(hb:mroIn K C (.type "BaseException")=some true)(hf:findObj K C od name=some (.bind g a))
  (hq:codeAny (model prog w) A.in1 (.call g ⟨[a,.ref x,.ref C],[]⟩) (fun r s'=>match r with|.ok (.ret v)=>R (.ok (.ret v)) s'|.ok _=>False|.error e=>R (.error e) s') s) :
  codeAny (model prog w) A (.call (.builtin "BaseException.__getattribute__") ⟨[.ref x,.str name tk],[]⟩) R s:=by
 refine Q_ F.attr_ValueError.ga.plain F.entry_bexc_ga ?_;refine @check_slot (model prog w) _ _ s "BaseException.__getattribute__" "BaseException" "__getattribute__" (.ref x) [.str name tk] [] _ zk zk (I.type.andThen (looks_mroIn X hb)) (F.args_bexc_ga (.ref x) (.str name tk)) ?_;obtain⟨hh,g',d,t,os⟩:=s;have L0:=I.type (M:=model prog w);have L1:=looks_find (M:=model prog w) X I hf;refine a_ (c_ (a_ (c_ (a_ (L0.at (a_ (L1.at ?_)))))));show wpAny _ _ (holding [a] (call g [a,.ref x,.ref C])>>=ret) _ _ _;refine a_ (q_ (J_ (C_ hq fun r s' z=>?_)));rcases r with e|(v|_|_|_)<;>first|exact z|exact c_ z
def Qu{Q:Tr->Tu->Prop}(X:K.In s.heap)(I:InstAt s.heap x ox C od)(Xt:findIn K (.ref C) "__getattribute__"=some (some (.builtin "BaseException.__getattribute__")))(Ua:findIn K (.ref C) "__getattr__"=some none)
  (h:codeAny (model prog w) A (.call (.builtin "BaseException.__getattribute__") ⟨[.ref x,.str name s.toks],[]⟩) (fun r s'=>match r with|.ok (.ret v)=>wpAny (model prog w) A (handedOut v) Q E s'|_=>False) {s with toks:=s.toks+1}) :
  wpAny (model prog w) A (getAttr (.ref x) name expr) Q E s:=by
 obtain⟨hh,g,d,t,os⟩:=s;have L0:=I.type (M:=model prog w);have L1:=looks_findIn (M:=model prog w) X Xt;have L2:=looks_findIn (M:=model prog w) X Ua;have hx2:(Value.builtin "BaseException.__getattribute__" == Value.builtin "object.__getattribute__")=false:=by decide +kernel
 unfold getAttr getAttrBy;refine a_ (wpAny_mkText (q_ (a_ (L0.at (a_ (L1.at ?_))))));dsimp only;rw[show(onTheHeap (Value.ref C)&&Value.builtin "BaseException.__getattribute__" == Value.builtin "object.__getattribute__")=false by rw[hx2];rfl,f_ zd];unfold getAttrByItsOwn hookBefore;rw[g_ (show onTheHeap (Value.ref C)=true from rfl)];refine a_ (L2.at (a_ (Re (q_ ?_))));unfold callGetattribute;rw[show(expr&&onTheHeap (Value.builtin "BaseException.__getattribute__"))=false by cases expr<;>rfl,f_ zd];unfold boundAndCalled;rw[F.attr_ValueError.ga.bind];refine a_ (c_ ?_);show wpAny _ _ (call (.builtin "BaseException.__getattribute__") [.ref x,.str name t]) _ _ _;refine J_ (C_ h fun r s' z=>?_);rcases r with e|(v|_|_|_)<;>first|exact z|exact z.elim
def xget_value{v:Tr}{Q:Tr->Tu->Prop}(X:K.In s.heap)(I:InstAt s.heap x ox C od)(Xt:findIn K (.ref C) "__getattribute__"=some (some (.builtin "BaseException.__getattribute__")))(Ua:findIn K (.ref C) "__getattr__"=some none)
  (hb:mroIn K C (.type "BaseException")=some true) (hf:findObj K C od name=some (.value v)) (hh:handedIn v=true) (h:Q v {s with toks:=s.toks+1}):wpAny (model prog w) A (getAttr (.ref x) name expr) Q E s:=
 Qu X I Xt Ua (QL (s:={s with toks:=s.toks+1}) X I hb hf (handed_on hh h))
def Qn{Q:Option Tr->Tu->Prop}(X:K.In s.heap)(I:InstAt s.heap x ox C od)(Xt:findIn K (.ref C) "__getattribute__"=some (some (.builtin "BaseException.__getattribute__")))(Ua:findIn K (.ref C) "__getattr__"=some none)
  (h:codeAny (model prog w) A (.call (.builtin "BaseException.__getattribute__") ⟨[.ref x,.str name s.toks],[]⟩) (fun r s'=>match r with|.ok (.ret v)=>wpAny (model prog w) A (handedOut v) (fun v Ur=>Q (some v) Ur) (fun _ _=>False) s'|_=>False) {s with toks:=s.toks+1}) :
  wpAny (model prog w) A (getAttr? (.ref x) name) Q E s:=by
 obtain⟨hh,g,d,t,os⟩:=s;have L0:=I.type (M:=model prog w);have L1:=looks_findIn (M:=model prog w) X Xt;have L2:=looks_findIn (M:=model prog w) X Ua;have hx2:(Value.builtin "BaseException.__getattribute__" == Value.builtin "object.__getattribute__")=false:=by decide +kernel
 unfold getAttr? getAttrBy? getAttrBy;refine a_ (wpAny_mkText (a_ (Re (q_ (a_ (L0.at (a_ (L1.at ?_))))))));dsimp only;rw[show(onTheHeap (Value.ref C)&&Value.builtin "BaseException.__getattribute__" == Value.builtin "object.__getattribute__")=false by rw[hx2];rfl,f_ zd];unfold getAttrByItsOwn hookBefore;rw[g_ (show onTheHeap (Value.ref C)=true from rfl)];refine a_ (L2.at (a_ (Re (q_ ?_))));unfold callGetattribute;rw[show(false&&onTheHeap (Value.builtin "BaseException.__getattribute__"))=false from rfl,f_ zd];unfold boundAndCalled;rw[F.attr_ValueError.ga.bind];refine a_ (c_ ?_);show wpAny _ _ (call (.builtin "BaseException.__getattribute__") [.ref x,.str name t]) _ _ _;refine J_ (C_ h fun r s' z=>?_);rcases r with e|(v|_|_|_)<;>first|exact m_ z (fun v Ur hv=>c_ hv) (fun _ _ z=>z.elim)|exact z.elim
def kitx_exc(hd:(clsIn K C).isSome=true)(Xt:findIn K (.ref C) "__getattribute__"=some (some (.builtin "BaseException.__getattribute__")))(Ua:findIn K (.ref C) "__getattr__"=some none)
  (hb:mroIn K C (.type "BaseException")=some true) (ho:mroIn K C (.type "object")=some true)
  (ha:findIn K (.ref C) "__class__"=some (some (.builtin "object.__class__"))) (hn:specialIn K (.builtin "object.__class__") "__get__"=some (some (.builtin "getset_descriptor.__get__"))) (Yg:takesIn K (.builtin "object.__class__")=some true) :
  KitX K (.ref x) (.ref C) (fun h=>∃ox od,InstAt h x ox C od) where
 ty:=fun _ _ _⟨_,_,I⟩=>I.type
 it:=fun _ _ X _=>by
  obtain⟨cdD,U_⟩:=Option.isSome_iff_exists.mp hd;unfold clsIn at U_;split at U_
  ·rename_i c' d' cd' sl' ho;intro A' Q' E' s' k q;unfold isType loadHead;exact a_ (Rj (k _ _ (X _ _ ho)) (c_ q))
  ·cases U_
 ne:=fun h tp dd f' n sl X htp=>by
  obtain⟨cdD,U_⟩:=Option.isSome_iff_exists.mp hd;refine Lo.mpr fun q=>?_;have e:C=tp:=Value.ref.inj (beq_iff_eq.mp q);subst e;unfold clsIn at U_;split at U_
  ·rename_i c' d' cd' sl' ho;have z:=(X _ _ ho).symm.trans htp;cases z
  ·cases U_
 ca:=fun{prog w A E Q s}X⟨ox,od,I⟩k=>by
  have hf:findObj K C od "__class__"=some (.bind (.builtin "getset_descriptor.__get__") (.builtin "object.__class__")):=by
   obtain⟨cdD,U_⟩:=Option.isSome_iff_exists.mp hd;unfold findObj;rw[U_,r_,ha,r_];dsimp only;rw[hn,r_];dsimp only;rw[Yg,r_]
  refine Qn X I Xt Ua (Qw (s:={s with toks:=s.toks+1}) X I hb hf ?_);refine class_get (s:={s with toks:=s.toks+1}) X I ho ?_;exact handed_on rfl k
end
section
variable{prog:Tv}{w:Tw}{A:Tz}{E:Tr->Tu->Prop}{h:Heap}{g:Array GenState}{d:Drawn}{t:Nat}{os:OsState}
variable{nm q:Str}{C N x:Ts}{bs bm:List Tr}{sn:TH}{Ui:List Tr}{ab:Bool}{col:Option Bool}{dd:Option Ts}{k0 k1 k2 k3 k5:Option Tr}{Uz:String}
 {mA:Str->Option Tr} {name:Str} {v:Tr} {o:Obj}
def Tail(bm:List Tr):Prop:=bm=bmV\/∃R,bm=.ref R::bmV
def Tail.pass(T:Tail bm)(self:Tr):refuseLoop self "__setattr__" bm=pure ():=by
 rcases T with rfl|⟨R,rfl⟩
 ·exact F.store_ValueError.passes self
 ·rw[refuseLoop_ref];exact F.store_ValueError.passes self
def Tail.has(T:Tail bm)(C:Ts)(n:String)(b:Bool)(e:bmV.contains (.type n)=b):(Value.ref C::bm).contains (.type n)=b:=by
 rcases T with rfl|⟨R,rfl⟩
 ·rw[p_,e];rfl
 ·rw[p_,p_,e];rfl
def xstore_new{tk:Tok}{Q:Fin->Tu->Prop}(T:Tail bm)(hC:h.get? C=some (excClassObj nm q C N bs bm true sn Ui ab col dd k0 k1 k2 k3 k5 Uz))(LN:Looks (model prog w) h (typeLookup (.ref C) name) none)
  (hx:h.get? x=some o) (hc:o.cls=.ref C) (hnc:∀c,o.data≠.cls c) (hdn:o.dict=none)
  (hq:∀h' YF,h'.get? x=some {cls:=o.cls,dict:=some h.objs.size,data:=o.data,slots:=o.slots}->h'.Ns1 h.objs.size (fun y=>if y=name then some v else none)->(∀b ob,b≠x->h.get? b=some ob->h'.get? b=some ob)->Q (.done (.ret .none)) ⟨h',g,d,YF,os⟩) :
  wpAny (model prog w) A (Builtin.«object.__setattr__» ⟨[.ref x,.str name tk,v],[]⟩) Q E ⟨h,g,d,t,os⟩:=by
 have We:=T.pass (.ref x);unfold Builtin.«object.__setattr__»;repeat (first|rw[refuse_eq]|(rw[refuseLoop_ref,We])|(with_reducible refine x_ hx ?_;rw[hc])|with_reducible refine wpAny_mroOf_exc hC ?_|with_reducible refine LN.at ?_|wp_step)
 rw[hdn,f_ (by simp[typeHasDict])];split
 ·rename_i Ug;cases Ug
 split
 ·rename_i c Ug;exact absurd Ug (hnc c)
 ·have YS:(h.push {cls:=.type "dict",data:=.dict #[]}).get? x=some o:=JQ _ hx;have hxs:x≠h.objs.size:=Kq (Ka hx);refine a_ (wpAny_alloc' ?_);refine a_ (wpAny_update' YS ?_);refine c_ ?_;have hgd:((h.push {cls:=.type "dict",data:=.dict #[]}).update x fun o=>{cls:=o.cls,dict:=some h.objs.size,data:=o.data,slots:=o.slots}).get? h.objs.size
    = some {cls:=.type "dict",data:=.dict #[]}:=
   (RP _ _ _ _ hxs.symm).trans (Heap.get?_push_at rfl rfl)
  have L':((h.push {cls:=.type "dict",data:=.dict #[]}).update x fun o=>{cls:=o.cls,dict:=some h.objs.size,data:=o.data,slots:=o.slots}).Ns h.objs.size (fun _=>none):=
   ⟨_,#[],_,hgd,rfl,fun e he=>absurd he (by simp),fun _=>rfl⟩
  show wpAny _ _ (storeInDict h.objs.size (.str name tk) name v) _ _ _;unfold storeInDict newKeyGuard;refine a_ (c_ (a_ (wpAny_nsSet1 (Heap.Ns1.of_empty L') fun h' UR hs=>?_)));obtain⟨oD,esD,epD,Y0,Zf,U_⟩:=UR.count (Within.cons name v Within.nil);refine a_ (wpAny_lookBehind Y0 (by rw[Zf];exact pastItsLine_dict (Kx U_ (by rw[JX,Ke,Rf];lia))) ?_)
  wp_walk
  refine hq h' _ ?_ UR (fun b ob hbx hb=>?_)
  ·refine(hs.2 x hxs).trans (i_ _ YS ?_);have VW:=(Heap.get?_some_iff.mp hx).2;obtain⟨oc,od,YK,Uj⟩:=o;cases YK<;>first|rfl|exact VW
  ·exact(hs.2 b (Kq (Ka hb))).trans ((RP _ _ _ _ hbx).trans (JQ _ hb))
def xstore_old{tk:Tok}{Q:Fin->Tu->Prop}{dx:Ts}{ns:TH}(T:Tail bm)(hC:h.get? C=some (excClassObj nm q C N bs bm true sn Ui ab col dd k0 k1 k2 k3 k5 Uz))(LN:Looks (model prog w) h (typeLookup (.ref C) name) none)
  (hx:h.get? x=some o) (hc:o.cls=.ref C) (hdx:o.dict=some dx) (WX:h.Ns1 dx mA) (hw:Within mA ns) (hsz:ns.length<sizeLine)
  (hq:∀h' YF,h'.Ns1 dx (fun y=>if y=name then some v else mA y)->Heap.SameBut dx h h'->Q (.done (.ret .none)) ⟨h',g,d,YF,os⟩) :
  wpAny (model prog w) A (Builtin.«object.__setattr__» ⟨[.ref x,.str name tk,v],[]⟩) Q E ⟨h,g,d,t,os⟩:=by
 have We:=T.pass (.ref x);unfold Builtin.«object.__setattr__»;repeat (first|rw[refuse_eq]|(rw[refuseLoop_ref,We])|(with_reducible refine x_ hx ?_;rw[hc])|with_reducible refine wpAny_mroOf_exc hC ?_|with_reducible refine LN.at ?_|wp_step)
 rw[hdx];refine c_ ?_;show wpAny _ _ (storeInDict dx (.str name tk) name v) _ _ _;unfold storeInDict newKeyGuard;refine a_ (c_ (a_ (wpAny_nsSet1 WX fun h' UR hs=>?_)));obtain⟨oD,esD,epD,Y0,Zf,U_⟩:=UR.count (Within.cons name v hw);refine a_ (wpAny_lookBehind Y0 (by rw[Zf];exact pastItsLine_dict (Kx U_ (by rw[JX];lia))) ?_)
 wp_walk
 exact hq h' _ UR hs
def xset_open{Q:Unit->Tu->Prop}{K:Frag}{od:Option Obj}(X:K.In h)(I:InstAt h x o C od)(hs:findIn K (.ref C) "__setattr__"=some (some (.builtin "object.__setattr__")))(ho:mroIn K C (.type "object")=some true)
  (hq:∀A',wpAny (model prog w) A' (Builtin.«object.__setattr__» ⟨[.ref x,.str name t,v],[]⟩) (fun f s'=>f=.done (.ret .none)/\Q () s') (fun _ _=>False) ⟨h,g,d,t+1,os⟩) :
  wpAny (model prog w) A (setAttr (.ref x) name v) Q E ⟨h,g,d,t,os⟩:=by
 refine set_plain X I hs ?_;refine Q_ F.store_ValueError.slot.plain F.store_ValueError.entry ?_;refine @check_slot (model prog w) _ _ ⟨h,g,d,t+1,os⟩ "object.__setattr__" "object" "__setattr__" (.ref x) [.str name t,v] [] _ F.store_ValueError.kind F.store_ValueError.split (I.type.andThen (looks_mroIn X ho)) (F.store_ValueError.args (.ref x) (.str name t) v) ?_;refine m_ (hq _) (fun f s' z=>?_) fun _ _ z=>z.elim;obtain⟨rfl,z⟩:=z;exact z
def PR{M:Model}{j':List Tr}{Q:Unit->Tu->Prop}(T:Tail bm)(hC:h.get? C=some (excClassObj nm q C N bs bm true sn Ui ab col dd k0 k1 k2 k3 k5 "ValueError.__new__"))
  (hq:Q () ⟨h,g,d,t,os⟩):wpAny M A (checkBuiltinCall "ValueError.__new__" ⟨.ref C::j',[]⟩) Q E ⟨h,g,d,t,os⟩:=by
 have F:=Ra;have ZT:=T.has C "ValueError" true zk;have hstar:=F.noStar;simp only[checkBuiltinCall,F.newKind,F.newSplit,F.newRow];repeat (first|refine x_ hC ?_|(refine y_ hC ?_;rw[ZT])|refine wpAny_staticBase_exc hC ?_|refine wpAny_madeBy_exc hC ?_|simp only[bne_self_eq_false,z_,Pi]|wp_step)
 exact hq
def xnew{R:Result->Tu->Prop}{j':List Tr}(T:Tail bm)(hC:h.get? C=some (excClassObj nm q C N bs bm true sn Ui ab col dd k0 k1 k2 k3 k5 "ValueError.__new__"))
  (hq:R (.ok (.ret (.ref (h.objs.size+1)))) ⟨(h.push {cls:=.type "tuple",data:=.seq j'.toArray}).push
   {cls:=.ref C,data:=.fields #[.ref h.objs.size,.none,.none,.none,.bool false,.none]},g,d,t,os⟩) (UY:j'.length<=sizeLine) :
  codeAny (model prog w) A (.builtin "ValueError.__new__" ⟨.ref C::j',[]⟩) R ⟨h,g,d,t,os⟩:=by
 have F:=Ra;have hends:=F.ends;have hcB:=T.has C "ValueError" true zk;have hcA:=T.has C "AttributeError" false zk;have hcN:=T.has C "NameError" false zk;refine codeAny_builtinAt F.entry ?_;unfold Builtin.«BaseException.__new__»;refine PySem.wpAt_bind ?_;show PySem.wpAt _ _ _ (stack>>=_) _ _ _;refine PySem.wpAt_bind (PySem.wpAt_stack fun p below=>PySem.wpAt_of_wpAny ?_)
 wp_walk
 refine PySem.wpAt_of_wpAny ?_;rw[F.owner];repeat (first|with_reducible refine wpAny_madeHere_exc F.canon hC ?_|with_reducible refine x_ hC ?_|(with_reducible refine y_ hC ?_;first|rw[hcB]|rw[hcA]|rw[hcN])|wp_step)
 show R _ _;rw[Lg];exact hq
abbrev tupO(j':List Tr):Obj:={cls:=.type "tuple",data:=.seq j'.toArray}
abbrev excO(C:Ts)(a:Ts):Obj:={cls:=.ref C,data:=.fields #[.ref a,.none,.none,.none,.bool false,.none]}
def P0{j':List Tr}{fI:Ts}{oI:Obj}{Q:Fin->Tu->Prop}(T:Tail bm)(hC:h.get? C=some (excClassObj nm q C N bs bm true sn Ui ab col dd k0 k1 k2 k3 k5 "ValueError.__new__"))
  (LI:Looks (model prog w) h (typeLookup (.ref C) "__init__") (some (.ref fI))) (Zc:h.get? fI=some oI) (Xv:oI.cls=.type "function")
  (hq:wpAny (model prog w) A (call (.ref fI) (.ref (h.objs.size+1)::j')) (fun r s'=>r=.none/\Q (.done (.ret (.ref (h.objs.size+1)))) s') E ⟨(h.push (tupO j')).push (excO C h.objs.size),g,d,t,os⟩) (UY:j'.length<=sizeLine) :
  wpAny (model prog w) A (Builtin.«type.__call__» ⟨.ref C::j',[]⟩) Q E ⟨h,g,d,t,os⟩:=by
 have F:=Ra;repeat (first|with_reducible refine x_ hC ?_|with_reducible refine wpAny_madeBy_exc hC ?_|wp_step)
 refine codeAny_call_builtin_code (Code.quiet_builtin _ F.quiet) (PR T hC ?_);refine xnew T hC ?_ UY;show wpAny _ _ _ _ _ _;have kp:∀b o,h.get? b=some o->((h.push (tupO j')).push (excO C h.objs.size)).get? b=some o:=fun b o hb=>JQ _ (JQ _ hb);have hC₁:=kp _ _ hC;have hfI₁:=kp _ _ Zc;have WM:((h.push (tupO j')).push (excO C h.objs.size)).get? (h.objs.size+1)=some (excO C h.objs.size):=by heap_get
 have hcC:(Value.ref C::bm).contains (.ref C)=true:=by simp
 unfold isInstance;repeat (first|with_reducible refine x_ WM ?_|(with_reducible refine y_ hC₁ ?_;rw[hcC])|wp_step)
 show wpAny _ _ (typeLookup (.ref C) _) _ _ _;refine LI _ _ _ _ kp ?_;refine q_ (a_ ?_);unfold bindSpecial;refine a_ (wpAny_typeOf (T:="function") ⟨_,hfI₁,Xv⟩ ?_);rw[g_ zd];refine c_ (a_ (m_ hq (fun r s' hr=>?_) fun _ _ x=>x));obtain⟨rfl,hQ⟩:=hr
 wp_walk
 exact hQ
def xmake{j':List Tr}{fI:Ts}{oI:Obj}{Q:Tr->Tu->Prop}(T:Tail bm)(hC:h.get? C=some (excClassObj nm q C N bs bm true sn Ui ab col dd k0 k1 k2 k3 k5 "ValueError.__new__"))
  (LI:Looks (model prog w) h (typeLookup (.ref C) "__init__") (some (.ref fI))) (Zc:h.get? fI=some oI) (Xv:oI.cls=.type "function")
  (hq:wpAny (model prog w) (A.under (.builtin "type.__call__" ⟨.ref C::j',[]⟩)) (call (.ref fI) (.ref (h.objs.size+1)::j')) (fun r s'=>r=.none/\Q (.ref (h.objs.size+1)) s') E ⟨(h.push (tupO j')).push (excO C h.objs.size),g,d,t,os⟩)
  (UY:j'.length<=sizeLine) :
  wpAny (model prog w) A (call (.ref C) j') Q E ⟨h,g,d,t,os⟩:=by
 have f1:=tc_lookup;have f2:=tc_bind (.ref C);have hT:(⟨h,g,d,t,os⟩:Tu).TypeIs (.ref C) "type":=⟨_,hC,rfl⟩;refine J_ (codeAny_of_tree ?_);show wpAny _ _ (callAny (.ref C) _) _ _ _;repeat (any_goals (first|assumption|with_reducible refine x_ hC ?_|wp_step))
 refine⟨rfl,?_⟩;refine codeAny_call_builtin_at (Code.quiet_builtin _ zk) entry_typeCall (wpAny_check_type_call_sub hC (P0 T hC LI Zc Xv ?_ UY));exact hq
end
section
variable{prog:Tv}{w:Tw}{A:Tz}{E:Tr->Tu->Prop}{h:Heap}{g:Array GenState}{d:Drawn}{t:Nat}{os:OsState}
variable{nm q:Str}{C N x:Ts}{bs bm:List Tr}{sn:TH}{Ui:List Tr}{ab:Bool}{col:Option Bool}{dd:Option Ts}{k0 k1 k2 k3 k5:Option Tr}{Uz:String}
 {mA:Str->Option Tr} {name:Str} {v:Tr} {o:Obj}
def xinit{R:Result->Tu->Prop}{j':List Tr}{vs:Array Tr}{a0:Ts}(T:Tail bm)(hC:h.get? C=some (excClassObj nm q C N bs bm true sn Ui ab col dd k0 k1 k2 k3 k5 Uz))(hx:h.get? x=some o)(hc:o.cls=.ref C)
  (hd:o.data=.fields vs) (h0:vs[0]?=some (.ref a0)) (UY:j'.length<=sizeLine)
  (hq:∀h' WQ,(∀b ob,b≠x->h.get? b=some ob->h'.get? b=some ob)->h'.get? x=some {cls:=o.cls,dict:=o.dict,data:=.fields WQ,slots:=o.slots}->(∃a,WQ[0]?=some (.ref a)/\WQ[1]?=vs[1]?)->R (.ok (.ret .none)) ⟨h',g,d,t,os⟩) :
  codeAny (model prog w) A (.call (.builtin "ValueError.__init__") ⟨.ref x::j',[]⟩) R ⟨h,g,d,t,os⟩:=by
 have F:=Ra;have hcB:=T.has C "ValueError" true zk;have hshort:=F.noStar;refine Q_ F.init.plain F.initEntry ?_;simp only[checkBuiltinCall,F.initKind,F.initSplit,F.initRow];repeat (first|(with_reducible refine x_ hx ?_;rw[hc])|(with_reducible refine y_ hC ?_;rw[hcB])|wp_step)
 refine RQ ?_;rw[show ∀(a b:String)(n:Nat),Bind.check ⟨.positional,"*","ValueError",.self,[⟨"args",.varPos,false⟩]⟩ a b n (List.map (fun x=>x.fst) ({pos:=Value.ref x::j'}:Args).kw)=pure ()from
  fun a b n=>check_star_args _ _ _ _ _ _]
 refine c_ ?_
 wp_walk
 rw[hd];repeat (any_goals (first|assumption|rw[h0]|wp_step))
 rw[hd];have hsz:0<vs.size:=by
  have:=(Array.getElem?_eq_some_iff.mp h0).1;exact this
 dsimp only;rw[g_ hsz];have YS:(h.push (tupO j')).get? x=some o:=JQ _ hx;refine wpAny_update' YS ?_;repeat (any_goals (first|assumption|wp_step))
 have VW:=(Heap.get?_some_iff.mp hx).2;refine hq _ (vs.setIfInBounds 0 (.ref h.objs.size)) (fun b ob hb e=>?_) ?_ ⟨h.objs.size,?_,?_⟩
 ·rw[RP _ _ _ _ hb];exact JQ _ e
 ·rw[i_ _ YS (by obtain⟨oc,od,YK,Uj⟩:=o;cases hd;rfl)];obtain⟨oc,od,YK,Uj⟩:=o;cases hd;rfl
 ·simp[hsz]
 ·exact L_ zd
variable{K:Frag}
def QM:findCls K (.type "ValueError") (.type "type") "__init__"=some (.val (.builtin "ValueError.__init__")):=by rfl
def PV:Looks M h (opaqueClassAbove (.type "ValueError")) none:=Looks.of_pure (by kernel_rfl)
def PH:Looks M h (typeOf (.type "ValueError")) (.type "type"):=Looks.of_pure (by kernel_rfl)
variable{Q:Tr×List Tr->Tu->Prop}{s:Tu}
def val_method{pl:Sem Bool}(X:K.In s.heap)(hq:Q (.builtin "ValueError.__init__",[]) {s with toks:=s.toks+1}):
  wpAny (model prog w) A (getMethod (.type "ValueError") "__init__" pl) Q E s:=by
 unfold getMethod specialOf;refine a_ (a_ (PH.here ?_));have L:Looks (model prog w) s.heap (typeLookup (.type "type") "__getattribute__") (some (.builtin "type.__getattribute__")):=Looks.of_pure KF.slot_tga.lookup;refine L.here ?_;dsimp only;rw[g_ canon_tga];refine a_ (cls_open (K:=K) (mc:=.type "type") (hook:=none) X PV PH (by rfl) (looks_hook X (by rfl)) (by rfl) QM ?_);exact c_ (handed_on rfl (c_ hq))
def own_method{pl:Sem Bool}{f C:Ts}{name:Str}{Q:Tr×List Tr->Tu->Prop}(X:K.In s.heap)(hr:readsIn K C (.type "type")=true)(hf:findCls K (.ref C) (.type "type") name=some (.val (.ref f)))
  (hq:Q (.ref f,[]) {s with toks:=s.toks+1}):wpAny (model prog w) A (getMethod (.ref C) name pl) Q E s:=by
 have hs:specialIn K (.ref C) "__getattribute__"=some (some (.builtin "type.__getattribute__")):=by
  have hr':=hr;simp only[readsIn,KQ,Ro]at hr';obtain⟨⟨⟨⟨a,b⟩,c'⟩,d⟩,f⟩:=hr';unfold specialIn;rw[b,r_];exact c'
 exact method_cls X hs (cls_value X hr hf rfl hq)
end
end XB
namespace L2
open PySem PySem.Spec PyProof.Rows
def XO(e C:Ts)(d:Option Ts)(r:Bool)(h:Heap):Prop:=∃(vs:Array Tr)(a0:Ts),h.get? e=some {cls:=.ref C,dict:=d,data:=.fields vs}/\vs[0]?=some (.ref a0)/\(r=false->vs[1]?=some .none)
def DX(dx:Ts)(fs:List (Str×V))(h:Heap):Prop:=∃mA,h.Ns1 dx mA/\(∀f,Ox (fs.lookup f) (mA f))/\PySem.Within mA (fs.map (·.1))
def O3(H:Hp)(e C:Ts)(d:Option Ts)(r:Bool)(fs:List (Str×V)):Prop:=H e=some (.ext (XO e C d r))/\fs.length<=1000/\match d with|none=>fs=[]|some dx=>dx≠e/\H dx=some (.ext (DX dx fs))
def O3.same(x:O3 H e C d r fs)(s:∀b o,H b=some o->H' b=some o):O3 H' e C d r fs:=by
 obtain⟨a,b,c⟩:=x;refine⟨s _ _ a,b,?_⟩;cases d with
 |none=>exact c
 |some dx=>exact⟨c.1,s _ _ c.2⟩
structure XC(K:ZF)(C:Ts)(nm:Str)(bm:List Tr):Prop where
 tl:XB.Tail bm
 obj:∃q N bs sn Ui ab col dd k0 k1 k2 k3 k5,K.lookup C=some (excClassObj nm q C N bs bm true sn Ui ab col dd k0 k1 k2 k3 k5 "ValueError.__new__")
 ga:PySem.W.findIn K (.ref C) "__getattribute__"=some (some (.builtin "BaseException.__getattribute__"))
 gt:PySem.W.findIn K (.ref C) "__getattr__"=some none
 sa:PySem.W.findIn K (.ref C) "__setattr__"=some (some (.builtin "object.__setattr__"))
 cl:PySem.W.findIn K (.ref C) "__class__"=some (some (.builtin "object.__class__"))
section
variable{K:ZF}{C:Ts}{nm:Str}{bm:List Tr}
def XC.clsIn(c:XC K C nm bm):∃cd,PySem.W.clsIn K C=some cd/\cd.mro=.ref C::bm/\cd.hasDict=true:=by
 obtain⟨q,N,bs,sn,Ui,ab,col,dd,k0,k1,k2,k3,k5,l⟩:=c.obj;refine⟨_,by unfold PySem.W.clsIn;rw[l],rfl,rfl⟩
def XC.mro(c:XC K C nm bm)(n:String)(b:Bool)(e:XB.bmV.contains (.type n)=b):PySem.W.mroIn K C (.type n)=some b:=by
 obtain⟨cd,h,m,_⟩:=c.clsIn;unfold PySem.W.mroIn;rw[h,r_,m];show(if false=true then _ else _)=_;rw[f_ zd,c.tl.has C n b e]
def XC.ne{C':Ts}{Vy:Str}{V6:List Tr}(c:XC K C nm bm)(c':XC K C' Vy V6)(h:nm≠Vy):C≠C':=by
 rintro rfl;obtain⟨q,N,bs,sn,Ui,ab,col,dd,k0,k1,k2,k3,k5,l⟩:=c.obj;obtain⟨q',N',bs',sn',XH,ab',XZ,V0,k0',k1',k2',k3',Ye,l'⟩:=c'.obj;rw[l]at l';injection l' with l1;injection l1 with _ _ l2 _;injection l2 with l3;injection l3 with l4;exact h l4
def XC.kit(c:XC K C nm bm){x:Ts}:PySem.W.KitX K (.ref x) (.ref C) (fun h=>∃ox od,PySem.W.InstAt h x ox C od):=by
 obtain⟨cd,h,_⟩:=c.clsIn;exact XB.kitx_exc (by rw[h];rfl) c.ga c.gt (c.mro "BaseException" true zk) (c.mro "object" true zk) c.cl (by rfl) (by rfl)
def XC.one{C':Ts}{Vy:Str}{V6:List Tr}(c:XC K C nm bm)(c':XC K C' Vy V6):PySem.W.kitOne K (.ref C) (.ref C')=some ((Value.ref C::bm).contains (.ref C')):=by
 obtain⟨cd,h,m,_⟩:=c.clsIn;obtain⟨cd',h',_⟩:=c'.clsIn;obtain⟨q,N,bs,sn,Ui,ab,col,dd,k0,k1,k2,k3,k5,l⟩:=c'.obj;unfold PySem.W.kitOne;by_cases e:(Value.ref C==Value.ref C')=true
 ·rw[g_ e,p_];have e':(Value.ref C'==Value.ref C)=true:=by rw[Ro]at e⊢;exact e.symm
  rw[e'];rfl
 ·rw[f_ e];unfold PySem.W.kitCls;dsimp only;have ht:PySem.W.typeIn K (.ref C')=some (.type "type"):=by
   show Option.map (fun x=>x.cls) (List.lookup C' K)=_;rw[l];rfl
  rw[g_ (by rw[h',ht];rfl)];unfold PySem.W.subIn PySem.W.mroIn;dsimp only;rw[h,r_,m];show(if false=true then _ else _)=_;rw[f_ zd]
def XC.val(c:XC K C nm bm):PySem.W.kitOne K (.ref C) (.type "ValueError")=some true:=by
 unfold PySem.W.kitOne;rw[f_ (by intro z;cases beq_iff_eq.mp z)];unfold PySem.W.kitCls;dsimp only;rw[g_ zk];unfold PySem.W.subIn;exact c.mro "ValueError" true zk
end
section
variable{X:Cx}{pins:List (Ts×Obj)}{σ:St}{H:Hp}{s:Tu}{e C dx:Ts}{d:Option Ts}{rr:Bool}{nm:Str}{bm:List Tr}{fs:List (Str×V)}{f:Str}{v:V}{A:Tz}{E:Tr->Tu->Prop}
def O3.obj(x:O3 H e C d rr fs)(I:NX X pins σ H s):∃(vs:Array Tr)(a0:Ts),s.heap.get? e=some {cls:=.ref C,dict:=d,data:=.fields vs}/\vs[0]?=some (.ref a0)/\(rr=false->vs[1]?=some .none):=by
 obtain⟨p,_,_⟩:=(show N7 X.prog X.w H s.heap e (.ext (XO e C d rr))from I.hok e _ x.1);exact p
def O3.dict(x:O3 H e C (some dx) rr fs)(I:NX X pins σ H s):∃mA,s.heap.Ns1 dx mA/\(∀f,Ox (fs.lookup f) (mA f))/\PySem.Within mA (fs.map (·.1)):=by
 obtain⟨_,_,_,h⟩:=x;obtain⟨p,_,_⟩:=(show N7 X.prog X.w H s.heap dx (.ext (DX dx fs))from I.hok dx _ h);exact p
def O3.inst(x:O3 H e C d rr fs)(I:NX X pins σ H s):∃ox od,PySem.W.InstAt s.heap e ox C od:=by
 obtain⟨vs,a0,h,_⟩:=x.obj I;cases d with
 |none=>exact⟨_,none,h,rfl,rfl,True.intro⟩
 |some dx=>
  obtain⟨mA,n,_,_⟩:=x.dict I;obtain⟨od,ho,_⟩:=gT n;exact⟨_,some od,h,rfl,rfl,ho⟩
def CY:dJ X (.builtin "isinstance") (fun xs H Q=>∃e C d r fs nm bm C' Vy V6,xs=[.ref e,.ref C']/\O3 H e C d r fs/\XC X.K C nm bm/\XC X.K C' Vy V6/\Q (.bl ((Value.ref C::bm).contains (.ref C'))) H):=by
 walk_at "J";obtain⟨e,C,d,r0,fs,nm,bm,C',Vy,V6,rfl,x,c,c',q⟩:=h;obtain⟨u,u',rfl,rx,ry⟩:=qF r;cases rx;cases ry;exact K0 c.kit I.kIn (x.inst I) (c.one c') (fun z=>nomatch z) fun tk=>⟨.bl _,H,I.tok _,rfl,q⟩
def sg:dJ X (.builtin "isinstance") (fun xs H Q=>∃e C d r fs nm bm,xs=[.ref e,.ty "ValueError"]/\O3 H e C d r fs/\XC X.K C nm bm/\Q (.bl true) H):=by
 walk_at "J";obtain⟨e,C,d,r0,fs,nm,bm,rfl,x,c,q⟩:=h;obtain⟨u,u',rfl,rx,ry⟩:=qF r;cases rx;cases ry;exact K0 c.kit I.kIn (x.inst I) c.val (fun z=>nomatch z) fun tk=>⟨.bl _,H,I.tok _,rfl,q⟩
inductive Hv(K:ZF):List Ts->Prop
 |nil:Hv K []
 |cons {C:Ts} {nm:Str} {bm:List Tr} {r:List Ts} (c:XC K C nm bm) (t:Hv K r):Hv K (C::r)
def wa{K:ZF}(c:XC K C nm bm):∀{cs:List Ts},Hv K cs->PySem.W.kitAny K (.ref C) (cs.map Value.ref)=some (cs.any fun C'=>(Value.ref C::bm).contains (.ref C'))
 |_,.nil=>rfl
 |_,.cons (C:=C') (r:=r) c' t=>by
  rw[Kd,Lq];unfold PySem.W.kitAny;rw[c.one c'];cases h:(Value.ref C::bm).contains (.ref C')with
  |true=>rfl
  |false=>dsimp only;rw[wa c t];rfl
def oz:∀{cs:List Ts}{us:List Tr},N2 (cs.map V.ref) us->us=cs.map Value.ref
 |[],_,.nil=>rfl
 |c::r,_,.cons h t=>by
  cases h;rw[Kd,oz t]
def Au:dJ X (.builtin "isinstance") (fun xs H Q=>∃e C d r fs nm bm tp cs,xs=[.ref e,.ref tp]/\O3 H e C d r fs/\XC X.K C nm bm/\H tp=some (.tup (cs.map V.ref))/\Hv X.K cs/\Q (.bl (cs.any fun C'=>(Value.ref C::bm).contains (.ref C'))) H):=by
 walk_at "J";obtain⟨e,C,d,r0,fs,nm,bm,tp,cs,rfl,x,c,ht,WA,q⟩:=h;obtain⟨u,u',rfl,rx,ry⟩:=qF r;cases rx;cases ry;obtain⟨_,f',rv,p⟩:=(show N7 X.prog X.w H s.heap tp (.tup (cs.map V.ref))from I.hok tp _ ht);have ei:=oz rv;subst ei;obtain⟨o,h1,h2,h3⟩:=p.up;obtain⟨oc,od,oda,Uj⟩:=o;obtain⟨n,h3⟩:=h3;dsimp only at h2 h3;subst h2 h3;exact PySem.W.kia_tup c.kit I.kIn (x.inst I) h1 (wa c WA) (fun z=>nomatch z) fun tk=>⟨.bl _,H,I.tok _,rfl,q⟩
def xq(I:NX X pins σ H s)(x:O3 H e C (some dx) rr fs)(c:XC X.K C nm bm)(n:Oe X.K C f)(l:fs.lookup f=some v)
  (h:∀u s',NX X pins σ H s'->N3 v u->Q u s'):wpAny (model X.prog X.w) A (getAttr (.ref e) f b) Q E s:=by
 obtain⟨mA,ns,r,_⟩:=x.dict I;obtain⟨vs,a0,ho,_⟩:=x.obj I;obtain⟨u,hu,ru⟩:=Ox.some_of (v:=v) (o:=mA f) (by rw[<-l];exact r f);obtain⟨od,hd,lk⟩:=gT ns;obtain⟨cd,hc,m,hh⟩:=c.clsIn;have hf:PySem.W.findObj X.K C (some od) f=some (.value u):=by
  unfold PySem.W.findObj;rw[hc,r_,show PySem.W.findIn X.K (.ref C) f=some none from n,r_];show((PySem.W.ownOf cd (some od) f).bind _)=_;have ho:PySem.W.ownOf cd (some od) f=some (some u):=by
   unfold PySem.W.ownOf;rw[hh,g_ rfl];show PySem.W.lookIn f od=_;rw[lk f,hu]
  rw[ho];rfl
 exact XB.xget_value I.kIn (ox:={cls:=.ref C,dict:=some dx,data:=.fields vs}) (od:=some od) ⟨ho,rfl,rfl,hd⟩ c.ga c.gt (c.mro "BaseException" true zk) hf (nG ru) (h u _ (I.tok _) ru)
def NX.two(I:NX X pins σ H s)(he:H e=some (.ext φ))(hD:s.heap.objs.size<=D)(k:∀b u,b≠e->s.heap.get? b=some u->h'.get? b=some u)(W3:∃u,h'.get? e=some u)
  (n1:N7 X.prog X.w (aI (aI H e o1) D o2) h' e o1) (n2:N7 X.prog X.w (aI (aI H e o1) D o2) h' D o2):NX X pins σ (aI (aI H e o1) D o2) {s with heap:=h',toks:=t'}:=by
 have hn:=I.hok.fresh hD;have neD:e≠D:=az he hn;have old:∀b o,H b=some o->b≠e->aI (aI H e o1) D o2 b=some o:=fun b o hb ne=>by rw[am (az hb hn),am ne];exact hb
 have nt:∀b o,H b=some o->(∀ψ,o≠.ext ψ)->b≠e:=fun b o hb ne z=>by
  rw[z,he]at hb;exact ne _ (Kw hb).symm
 refine I.un ⟨?_,?_,?_,?_,?_,?_,?_⟩ ?_
 ·intro b o q hb _ _;exact k b o (fun z=>by rw[z,he]at hb;cases hb) q
 ·intro b o q hb _ _;exact⟨o.slots,k b o (fun z=>by rw[z,he]at hb;cases hb) q⟩
 ·intro b o q hb _;have h1:b≠e:=fun z=>by rw[z,he]at hb;cases hb
  have h2:b≠D:=fun z=>by
   rw[z]at q;exact absurd (Ka q) (Nat.not_lt_of_le hD)
  rw[am h2,am h1];exact hb
 ·intro b o q _;by_cases z:b=e
  ·rw[z];exact W3
  ·exact⟨o,k b o z q⟩
 ·intro b xs hb;exact old b _ hb (nt b _ hb (fun ψ z=>nomatch z))
 ·intro b o u hb;exact old b _ hb (nt b _ hb (fun ψ z=>nomatch z))
 ·intro b ps hb;refine⟨#[],?_⟩;rw[Array.append_empty];exact old b _ hb (nt b _ hb (fun ψ z=>nomatch z))
 ·intro a o ha;by_cases hd:a=D
  ·subst hd;rw[ae]at ha;cases ha;exact n2
  ·rw[am hd]at ha;by_cases hx:a=e
   ·subst hx;rw[ae]at ha;cases ha;exact n1
   ·rw[am hx]at ha;refine(I.hok a o ha).stay (fun b u hb q=>k b u ?_ q) (fun b hb=>old b _ hb (nt b _ hb (fun ψ z=>nomatch z))) (fun b xs hb=>old b _ hb (nt b _ hb (fun ψ z=>nomatch z)));rcases hb with rfl|hb
    ·exact hx
    ·exact nt b _ hb (fun ψ z=>nomatch z)
structure Hw(H H':Hp)(e C:Ts)(d:Option Ts)(r:Bool)(d':Ts)(fs:List (Str×V)):Prop where
 at_:O3 H' e C (some d') r fs
 keep:∀b o,H b=some o->b≠e->some b≠d->H' b=some o
 new:d=none->H d'=none
 old:∀dx,d=some dx->d'=dx
def iY(p:φ h)(o:∃o,h.get? a=some o)(st:∀h1 h2:Heap,φ h1->(∀o,h1.get? a=some o->h2.get? a=some o)->φ h2):N7 P w H h a (.ext φ):=⟨p,o,st⟩
def XO.stay:∀h1 h2:Heap,XO e C d r h1->(∀o,h1.get? e=some o->h2.get? e=some o)->XO e C d r h2:=fun h1 h2⟨vs,a0,h,z⟩k=>⟨vs,a0,k _ h,z⟩
def DX.stay:∀h1 h2:Heap,DX dx fs h1->(∀o,h1.get? dx=some o->h2.get? dx=some o)->DX dx fs h2:=fun h1 h2⟨mA,n,r⟩k=>⟨mA,n.at k,r⟩
def wb{mA:Str->Option Tr}{u:Tr}{y:V}(r:∀f,Ox (fs.lookup f) (mA f))(ry:N3 y u)(g:Str):Ox ((aL f y fs).lookup g) (if g=f then some u else mA g):=by
 rw[gD];by_cases q:g=f
 ·rw[g_ q,g_ q];exact ry
 ·rw[f_ q,f_ q];exact r g
def mQ(wi:PySem.Within mA (fs.map (·.1))):PySem.Within (fun g=>if g=f then some u else mA g) ((aL f y fs).map (·.1)):=fun g hg=>by
 by_cases q:g=f
 ·rw[q];exact(fC f y fs).1
 ·refine(fC f y fs).2 g (wi g fun z=>hg ?_);show(if g=f then some u else mA g)=none;rw[f_ q];exact z
def xr(I:NX X pins σ H s)(x:O3 H e C d rr fs)(c:XC X.K C nm bm)(n:Oe X.K C f)(hl:fs.length<1000)(ry:N3 y u)
  (h:∀s' H' d',NX X pins σ H' s'->Hw H H' e C d rr d' (aL f y fs)->Q () s'):wpAny (model X.prog X.w) A (setAttr (.ref e) f u) Q E s:=by
 obtain⟨q0,N,bs,sn,Ui,ab,col,dd,k0,k1,k2,k3,k5,lk⟩:=c.obj;have hC:=I.kIn _ _ lk;have LN:=Rp (M:=model X.prog X.w) I.kIn (show PySem.W.findIn X.K (.ref C) f=some none from n);obtain⟨vs,a0,ho,hv0⟩:=x.obj I;have Y2:(aL f y fs).length<=1000:=by have:=gE f y fs;lia
 obtain⟨hh,g,dr,t,os⟩:=s;cases d with
 |none=>
  have U9:fs=[]:=x.2.2;subst U9;refine XB.xset_open (o:={cls:=.ref C,dict:=none,data:=.fields vs}) (od:=none) I.kIn ⟨ho,rfl,rfl,True.intro⟩ c.sa (c.mro "object" true zk) fun A'=>?_;refine XB.xstore_new c.tl hC LN ho rfl (fun c z=>nomatch z) rfl fun h' YF Uk UR hk=>⟨rfl,?_⟩;have neD:e≠hh.objs.size:=Kq (Ka ho);have nD:H hh.objs.size=none:=I.hok.fresh (J2 _);refine h _ _ hh.objs.size (NX.two (o1:=.ext (XO e C (some hh.objs.size) rr)) (o2:=.ext (DX hh.objs.size (aL f y []))) I x.1 (J2 _) hk ⟨_,Uk⟩ ?_ ?_) ⟨⟨?_,Y2,neD.symm,ae⟩,?_,fun _=>nD,(fun dx z=>nomatch z)⟩
  ·exact iY ⟨vs,a0,Uk,hv0⟩ ⟨_,Uk⟩ XO.stay
  ·refine iY ⟨_,UR,wb (mA:=fun _=>none) (fs:=[]) (fun _=>True.intro) ry,mQ (mA:=fun _=>none) (fs:=[]) (fun g hg=>absurd rfl hg)⟩ ?_ DX.stay;obtain⟨o',_,_,e1,_⟩:=UR;exact⟨o',e1⟩
  ·rw[am neD,ae]
  ·intro b o hb ne _;rw[am (az hb nD),am ne];exact hb
 |some dx=>
  obtain⟨mA,ns,r,wi⟩:=x.dict I;obtain⟨od,hd,_⟩:=gT ns;obtain⟨x1,x2,x3,x4⟩:=x;refine XB.xset_open (o:={cls:=.ref C,dict:=some dx,data:=.fields vs}) (od:=some od) I.kIn ⟨ho,rfl,rfl,hd⟩ c.sa (c.mro "object" true zk) fun A'=>?_;refine XB.xstore_old c.tl hC LN ho rfl rfl ns wi (by rw[JY,Rf];lia) fun h' YF UR sb=>⟨rfl,?_⟩;have Us:∃o,h'.get? dx=some o:=let⟨o,_,_,e',_⟩:=UR;⟨o,e'⟩;refine h _ _ dx (I.write (o:=.ext (DX dx (aL f y fs))) (x:=dx) (e:=dx) (by rw[x4];exact True.intro) (.inl rfl) (fun b q hb z=>(sb.2 b hb).trans z) Us ?_) ⟨⟨by rw[am x3.symm];exact x1,Y2,x3,ae⟩,?_,(fun z=>nomatch z),fun _ z=>Kw z⟩
  ·exact iY ⟨_,UR,wb r ry,mQ wi⟩ Us DX.stay
  ·intro b o hb _ ne;rw[am (fun z=>ne (by rw[z]))];exact hb
end
section
inductive Av(K:ZF)(f:Str)(Q:VK)(x:V)(H1:Hp):Prop
 |mk(a C dx r fs nm bm v:_):x=.ref a->O3 H1 a C (some dx) r fs->XC K C nm bm->Oe K C f->fs.lookup f=some v->Q v H1->Av K f Q x H1
def Hx(K:ZF)(ta:TE)(f:Str):TE:=fun σ H Q=>ta σ H fun x H1=>Av K f Q x H1
def wc(he:PE X e ta)(hb:attributeBase e f X.env (eval e X.env)=eval e X.env):PE X (.Attribute e f pos) (Hx X.K ta f):=by
 walk_at "p";refine uQ hb (bH (he pins s σ H _ I h) fun u s1 hZZ=>?_);obtain⟨x,H1,I1,rx,a,C,dx,r0,fs,nm,bm,v,ex,ea,c,n,l,q⟩:=hZZ;subst ex;obtain rfl:u=Value.ref a:=rx;exact xq I1 ea c n l fun u' s2 I2 ru=>⟨v,H1,I2,ru,q⟩
inductive Aw(K:ZF)(f:Str)(D:Ow)(σ:St)(y:V)(x:V)(H2:Hp):Prop
 |mk(a C d r fs nm bm:_):x=.ref a->O3 H2 a C d r fs->XC K C nm bm->Oe K C f->fs.length<1000->(∀H3 d',Hw H2 H3 a C d r d' (aL f y fs)->D.nx σ H3)->Aw K f D σ y x H2
def Hy(K:ZF)(ta tv:TE)(f:Str):TS:=fun D σ H=>tv σ H fun y H1=>ta σ H1 fun x H2=>Aw K f D σ y x H2
def CZ(ha:PE X o ta)(hv:PE X value tv)(hs:swapsWith value (some (.Attribute o f P')) pos.line X.env=pure false:=by rfl):PS X (.Assign [.Attribute o f P'] value pos) (Hy X.K ta tv f):=by
 walk_at "u";refine R1 (bH (hv pins s σ H _ I h) fun u s1⟨y,H1,I1,ry,q⟩=>bH (ha pins s1 σ H1 _ I1 q) fun ov s2 hZZ=>?_) hs;obtain⟨x,H2,I2,rx,a,C,d,r0,fs,nm,bm,ex,ea,c,n,l,q2⟩:=hZZ;subst ex;obtain rfl:ov=Value.ref a:=rx;exact xr I2 ea c n l ry fun s3 H3 d' I3 xs=>⟨σ,_,I3,q2 H3 d' xs⟩
end
section
def Ax(C:Ts)(sp:Sp)(E:XK)(t:TA):TE:=fun σ H Q=>t σ H fun vs H1=>∀a,H1 a=none->sp (.ref a::vs) (aI H1 a (.ext (XO a C none false))) (fun v H2=>v=.non/\Q (.ref a) H2) E
structure Jk(K:ZF)(C f:Ts):Prop where
 init:PySem.W.findIn K (.ref C) "__init__"=some (some (.ref f))
 fn:PySem.W.isFn K (.ref f)=true
 kp:PySem.W.keepIn K (.ref C)=true
def xt(c:XC X.K C nm bm)(M:Jk X.K C f)(F:NZ X.prog X.w X.K X.mg X.base CX k f fd ps sp)(hr:N1 (k+1) X.A)(hb:Oa X.K fd ps [])
  (hx:fj CX X E) (hps:ps.length<=1000) (I:NX X pins σ H s) (r:N2 vs us)
  (h:∀a,H a=none->sp (.ref a::vs) (aI H a (.ext (XO a C none false))) (fun v H2=>v=.non/\Q (.ref a) H2) E) :
  wpAny (model X.prog X.w) X.A (call (.ref C) us) (EP X pins σ Q) X.xe s:=by
 obtain⟨q0,N,bs,sn,Ui,ab,col,dd,k0,k1,k2,k3,k5,lk⟩:=c.obj;have hC:=I.kIn _ _ lk;have LI:=Rp (M:=model X.prog X.w) I.kIn M.init;obtain⟨oI,Zc,Xv⟩:∃oI,s.heap.get? f=some oI/\oI.cls=.type "function":=by
  have ht:PySem.W.typeIn X.K (.ref f)=some (.type "function"):=beq_iff_eq.mp M.fn;obtain⟨o,ho,hc⟩:=Option.map_eq_some_iff.mp ht;exact⟨o,I.kIn _ _ ho,hc⟩
 have hq:=h (s.heap.objs.size+1) (I.hok.fresh (RS _));have r2:N2 (V.ref (s.heap.objs.size+1)::vs) (Value.ref (s.heap.objs.size+1)::us):=.cons rfl r;have hl:(Value.ref (s.heap.objs.size+1)::us).length=ps.length:=by
  have e:=r2.length;rw[F.len _ _ _ _ hq]at e;exact e.symm
 have kp:∀b o,s.heap.get? b=some o->((s.heap.push (XB.tupO us)).push (XB.excO C s.heap.objs.size)).get? b=some o:=fun b o hb=>JQ _ (JQ _ hb);have WM:((s.heap.push (XB.tupO us)).push (XB.excO C s.heap.objs.size)).get? (s.heap.objs.size+1)=some (XB.excO C s.heap.objs.size):=by
  have:=Ki (s.heap.push (XB.tupO us)) (o:=XB.excO C s.heap.objs.size) rfl
  rwa [Lg]at this
 have I2:=I.laid (a:=s.heap.objs.size+1) (o:=.ext (XO (s.heap.objs.size+1) C none false)) (t':=s.toks) kp (RS _) (iY ⟨_,s.heap.objs.size,WM,rfl,fun _=>rfl⟩ ⟨_,WM⟩ XO.stay);have L9:us.length<=sizeLine:=by
  rw[JX]at hl;rw[Rf];lia
 obtain⟨hh,g,d,t,os⟩:=s;refine XB.xmake c.tl hC LI Zc Xv (J_ (C_ (F.run _ X.stack _ _ ⟨Value.ref (hh.objs.size+1)::us,[]⟩ (Value.ref (hh.objs.size+1)::us) _ _ E (hr.make C us []) (I2.env0.make C us []) (by
  have:=hb ⟨(hh.push (XB.tupO us)).push (XB.excO C hh.objs.size),g,d,t,os⟩ (Value.ref (hh.objs.size+1)::us) I2.kIn (by rw[KB];exact hl);rw[KB]at this;exact this) r2 hq) fun r s' UQ=>?_)) L9
 cases r with
 |error e=>exact hx pins σ _ _ e s' I2 UQ
 |ok fl=>
  cases fl with
  |ret u=>
   obtain⟨v,H',I3,rv,ev,q3⟩:=I2.after UQ;subst ev;exact⟨rv,⟨V.ref (hh.objs.size+1),H',I3,rfl,q3⟩⟩
  |next=>exact False.elim UQ
  |brk=>exact False.elim UQ
  |cont=>exact False.elim UQ
def Ay(c:XC X.K C nm bm)(M:Jk X.K C f)(F:NZ X.prog X.w X.K X.mg X.base CX k f fd ps sp)(hr:N1 (k+1) X.A)(hg:Gl X x)(hm:X.mg x=some (.ref C))(hb:Oa X.K fd ps [])(hx:fj CX X E)(hps:ps.length<=1000)
  (ha:PA X (e::es) t) (Ul:(x==("__debug__":Str))=false:=by decide) (he:starEach (e::es) X.env=(false,eval e X.env)::starEach es X.env:=by rfl) (TY:(backTo pos (starEach es X.env)).any (·.1)=false:=by rfl) :
  PE X (.Call (.Name x p) (e::es) [] pos) (Ax C sp E t):=by
 walk_at "p";refine s_ (fV I hg hm ?_ Ul);refine Lb (h₀:=X.base) I.ok.mod.kin M.kp (bH (ha pos pins s σ H _ I h) fun us s1⟨vs,H1,I1,r,q⟩=>⟨I1.kIn,?_⟩) he TY;exact xt c M F hr hb hx hps I1 r q
structure DL(K:ZF)(C:Ts)(m:Str)(f:Ts):Prop where
 rd:PySem.W.readsIn K C (.type "type")=true
 at_:PySem.W.findCls K (.ref C) (.type "type") m=some (.val (.ref f))
 kp:PySem.W.keepIn K (.ref f)=true
def Az(M:DL X.K C m f)(F:NZ X.prog X.w X.K X.mg X.base CX k f fd ps sp)(hr:N1 k X.A)(hg:Gl X x)(hm:X.mg x=some (.ref C))(hb:Oa X.K fd ps [])(hx:fj CX X E)(ha:PA X (e::es) t)
  (Ul:(x==("__debug__":Str))=false:=by decide) (M':starEach (e::es) X.env=(false,eval e X.env)::starEach es X.env:=by rfl) (TY:(backTo pos (starEach es X.env)).any (·.1)=false:=by rfl)
  (ht:eval (.Call (.Attribute (.Name x p) m B') (e::es) [] pos) X.env=(do
   let ov <-eval (.Name x p) X.env
   standAt B'.atName
   let(f,first) <-holding [ov] (getMethod ov m pl)
   callWith pos f first (backTo pos (starEach (e::es) X.env)) (backToKw pos (keywordEach [] X.env))):=by rfl) :
  PE X (.Call (.Attribute (.Name x p) m B') (e::es) [] pos) (uT sp [] E t):=by
 walk_at "p";refine A_ (pl:=pl) (bH (bi (v:=.ref C) hg hm rfl Ul pins s σ H (fun v H1=>v=.ref C/\H1=H) I ⟨rfl,rfl⟩) fun u s1 hZZ=>?_) ht;obtain⟨xx,H1,I1,rx,ex,eh⟩:=hZZ;subst ex eh;obtain rfl:u=Value.ref C:=rx;refine XB.own_method I1.kIn M.rd M.at_ ?_;refine Lb (first:=[]) (h₀:=X.base) I.ok.mod.kin M.kp (bH (ha pos pins _ σ H1 _ (I1.tok _) h) fun us s2⟨vs,H2,I2,r,q2⟩=>⟨I2.kIn,?_⟩) M' TY;exact jE (us:=us) (vs:=vs) (ds:=[]) (dvs:=[]) F hr hb .nil hx I2 r q2
def AA(h:H a=some o):aI H a o=H:=by
 funext b;unfold aI;by_cases z:b=a
 ·rw[g_ z,z,h]
 ·rw[f_ z]
inductive AB(K:ZF)(Q:VK)(vs:TQ)(H1:Hp):Prop
 |mk(a j' C d r fs nm bm:_):vs=.ref a::j'->j'.length<=1000->O3 H1 a C d r fs->XC K C nm bm->Q .non H1->AB K Q vs H1
def Hz(K:ZF)(t:TA):TE:=fun σ H Q=>t σ H fun vs H1=>AB K Q vs H1
def C0(hg:Gl X "ValueError")(hm:X.mg "ValueError"=none)(ha:PA X (e::es) t)
  (M':starEach (e::es) X.env=(false,eval e X.env)::starEach es X.env:=by rfl) (TY:(backTo pos (starEach es X.env)).any (·.1)=false:=by rfl)
  (ht:eval (.Call (.Attribute (.Name "ValueError" p) "__init__" B') (e::es) [] pos) X.env=(do
   let ov <-eval (.Name "ValueError" p) X.env
   standAt B'.atName
   let(f,first) <-holding [ov] (getMethod ov "__init__" pl)
   callWith pos f first (backTo pos (starEach (e::es) X.env)) (backToKw pos (keywordEach [] X.env))):=by rfl) :
  PE X (.Call (.Attribute (.Name "ValueError" p) "__init__" B') (e::es) [] pos) (Hz X.K t):=by
 walk_at "p";have hv:bootBuiltins "ValueError"=some (.type "ValueError"):=by decide +kernel
 refine A_ (pl:=pl) (bH (ef (n:="ValueError") hg hm hv zd zd pins s σ H (fun v H1=>v=.ty "ValueError"/\H1=H) I ⟨rfl,rfl⟩) fun u s1 hZZ=>?_) ht;obtain⟨xx,H1,I1,rx,ex,eh⟩:=hZZ;subst ex eh;obtain rfl:u=Value.type "ValueError":=rx;refine XB.val_method I1.kIn ?_;refine RL (bH (ha pos pins _ σ H1 _ (I1.tok _) h) fun us s2 hZZ=>?_) M' TY;obtain⟨vs,H2,I2,r,a,j',C,d,r0,fs,nm,bm,ev,hz,x,c,q2⟩:=hZZ;subst ev;cases r with
 |@cons _ u _ UP r0 rr=>
  obtain rfl:u=Value.ref a:=r0;obtain⟨q0,N,bs,sn,Ui,ab,col,dd,k0,k1,k2,k3,k5,lk⟩:=c.obj;have hC:=I2.kIn _ _ lk;obtain⟨vv,a0,ho,hv0,hv1⟩:=x.obj I2;have hl:=rr.length;obtain⟨hh,g,d',t',os⟩:=s2;refine J_ (XB.xinit c.tl hC ho rfl rfl hv0 (by rw[Rf];lia) fun h' WQ hk Uk⟨a1,h1,h2⟩=>?_);have I3:=I2.write (o:=.ext (XO a C d r0)) (x:=a) (e:=a) (t':=t') (by rw[x.1];exact True.intro) (.inl rfl) (fun b q hb z=>hk b q hb z) ⟨_,Uk⟩ (iY ⟨WQ,a1,Uk,h1,fun z=>h2.trans (hv1 z)⟩ ⟨_,Uk⟩ XO.stay);rw[AA x.1]at I3;exact⟨.non,H2,I3,rfl,q2⟩
end
def Bt(p:Ts)(H H':Hp):Prop:=∀b o,H b=some o->b≠p->H' b=some o
def mS(c:Ts)(qual:Str):HO:=.ext fun h=>h.CodeRec (.ref c) qual
def ip(f:Ts)(o:Obj):HO:=.ext fun h=>h.get? f=some o
def AC(x:h.CodeRec (.ref c) qual):N7 P w H h c (mS c qual):=by
 refine⟨x,?_,fun h1 h2 y k=>?_⟩
 ·obtain⟨c',o,vs,t,e,g,_⟩:=x;cases e;exact⟨o,g⟩
 ·obtain⟨c',o,vs,t,e,g,r⟩:=y;cases e;exact⟨c,o,vs,t,rfl,k o g,r⟩
def qj(x:h.get? f=some o):N7 P w H h f (ip f o):=⟨x,⟨o,x⟩,fun _ _ y k=>k o y⟩
def Og(H:Hp)(P:Ts)(qual:Str):Prop:=∃ps,H P=some (.tbl ps)/\TriplesOk ps.toList/\∀pos v,codeAmong pos ps.toList=some v->∃c,v=.ref c/\H c=some (mS c qual)
def Og.bt(h:Og H P qual)(k:∀b o,H b=some o->H' b=some o):Og H' P qual:=by
 obtain⟨ps,a,b,c⟩:=h;exact⟨ps,k _ _ a,b,fun pos v e=>let⟨d,e1,e2⟩:=c pos v e;⟨d,e1,k _ _ e2⟩⟩
def uB:∀(l:List Tr),TriplesOk l->codeAmong p (l++[a,b,c])=some v->codeAmong p l=some v\/v=c:=by
 intro l h
 fun_induction TriplesOk l with
 |case1=>
  intro e;refine .inr ?_;rw[LL]at e;cases a<;>cases b<;>simp[codeAmong]at e;exact e.2.symm
 |case2 i1 t1 i2 t2 z r ih=>
  intro e;simp only[K7,codeAmong]at e⊢;split at e
  ·rename_i hc;rw[g_ hc];exact .inl e
  ·rename_i hc;rw[f_ hc];exact ih h e
 |case3=>exact h.elim
def qk:∀(l:List Tr),TriplesOk l->TriplesOk (l++[.int a t,.int b u,c]):=by
 intro l h
 fun_induction TriplesOk l with
 |case1=>exact trivial
 |case2 i1 t1 i2 t2 z r ih=>exact ih h
 |case3=>exact h.elim
structure uC(base:Heap)(mg:Str->Option Tr)(c P:Ts):Prop where
 hd:PySem.W.CodeHd base c P
 bm:base.BuiltinsAt mg P
 gl:mainGlobals≠P
def we(X:Cx)(H:Hp)(f:Ts)(qual:Str)(params:Arguments)(body:Expr)(sc:Scope):Prop:=
 ∃(c:Ts)(pm ctv:Tr)(cl:List (Str×Ts)),H f=some (ip f (PySem.W.kla_obj "<lambda>" qual params body sc cl pm c ctv))/\H c=some (mS c qual)/\(∀x d,cl.lookup x=some d->X.env.cells.lookup x=some d)/\∀x∈sc.names,x.2=.free->∃d,cl.lookup x.1=some d
def jA(N:TH)(sc0 sc:Scope)(ps fr:TH)(ix:TJ):Bool:=
 sc.kind==.function && !sc.isCoroutine && !sc.isGenerator&&ix.length==fr.length&&decide (ps.length<=1)&&ps.all (fun x=>sc.names.lookup x==some .local) &&
 sc.names.all (fun p=>p.2 != .cell&&(p.2 != .free||(sc0.names.lookup p.1==some .cell||sc0.names.lookup p.1==some .free))) &&
 (List.range fr.length).all fun j=>match ix[j]?,fr[j]? with
  |some i,some x=>N[i]?==some x&&sc.names.lookup x==some .free
  |_,_=>false
def mU(h:jA N sc0 sc ps fr ix=true):sc.kind=.function/\sc.isCoroutine=false/\sc.isGenerator=false/\ix.length=fr.length/\ps.length<=1/\(∀x∈ps,sc.names.lookup x=some .local) /\
  (∀p∈sc.names,p.2≠.cell)/\(∀p∈sc.names,p.2=.free->sc0.names.lookup p.1=some .cell\/sc0.names.lookup p.1=some .free)/\∀(j:Nat)(x:Str),fr[j]?=some x->∃i,ix[j]?=some i/\N[i]?=some x/\sc.names.lookup x=some .free:=by
 unfold jA at h;simp only[KQ,KC,Ro,bne_iff_ne,Bool.or_eq_true,ne_eq,RH,t_]at h;obtain⟨⟨⟨⟨⟨⟨⟨h1,h2⟩,h3⟩,h4⟩,h5⟩,h6⟩,h7⟩,h8⟩:=h;refine⟨h1,h2,h3,h4,h5,h6,fun p hp=>(h7 p hp).1,fun p hp hf=>?_,fun j x e=>?_⟩
 ·rcases(h7 p hp).2 with z|z
  ·exact absurd hf z
  ·exact z
 ·have hj:j<fr.length:=(JV.mp e).1;have:=h8 j (K1.mpr hj);rw[e]at this;cases q:ix[j]? with
  |none=>rw[q]at this;simp at this
  |some i=>
   rw[q]at this;exact⟨i,rfl,by simpa using this⟩
section
variable{X:Cx}{pins:List (Ts×Obj)}{σ:St}{H:Hp}{s:Tu}{params:Arguments}{body:Expr}{sc sc0:Scope}{pos:Pos}{c P:Ts}{N ps fr:TH}{ix:TJ}{qual:Str}
def HB(X:Cx)(P:Ts)(qual:Str)(params:Arguments)(body:Expr)(sc:Scope):TE:=fun σ H Q=>Og H P qual/\∀f H',H f=none->Og H' P qual->we X H' f qual params body sc->Bt P H H'->Q (.ref f) H'
def Fx(L:uC X.base X.mg c P)(Vw:X.env.code=.ref c)(hok:jA X.N X.env.scope sc ps fr ix=true)(hq:X.env.qual++"<lambda>"=qual)(XV:defaultsOf params X.env=([],[]):=by rfl):PE X (.Lambda params body sc pos) (HB X P qual params body sc):=by
 refine⟨fun pins s σ H Q I h=>?_⟩;obtain⟨T,q⟩:=h;obtain⟨YE,tP,tT,tA⟩:=id T;obtain⟨_,_,_,_,_,_,_,Vv,_⟩:=mU hok;obtain⟨cl,e1,e2,e3⟩:=lG (env:=X.env) (sc:=sc) (fun x hx hf=>I.ok.has x.1 (Vv x hx hf));subst hq;have oP:s.heap.get? P=some (PySem.W.tabObj YE):=I.hok P _ tP;obtain⟨bm,ob,b1,b2,b3,b4,b5,b6⟩:=L.bm;have BM:s.heap.BuiltinsAt X.mg P:=⟨bm,ob,b1,b2,b3,b4,I.bk _ _ b5,b6⟩;have G:s.heap.Ns mainGlobals X.mg:=I.mod.glob.keeps I.bk;refine PySem.W.kla_eval XV ?_;cases hit:codeAmong pos YE.toList with
 |some cv=>
  obtain⟨d,rfl,hd⟩:=tA pos cv hit;refine PySem.W.kla_makeFunctionHit e1 I.ok.glob G Vw (L.hd.keeps I.bk) oP tT hit BM fun ctv h' tk k sz=>?_;have hf:H h'.objs.size=none:=I.hok.fresh sz;have I1:NX X pins σ H {s with heap:=h',toks:=tk}:=I.kept k;have up:∀b o,H b=some o->(aI H h'.objs.size (ip h'.objs.size (PySem.W.kla_obj "<lambda>" (X.env.qual++"<lambda>") params body sc cl ((X.mg "__name__").getD .none) d ctv))) b=some o:=fun b o e=>by rw[am (az e hf)];exact e
  refine⟨.ref h'.objs.size,_,I1.laid (s:={s with heap:=h',toks:=tk}) (t':=tk) (o:=ip h'.objs.size (PySem.W.kla_obj "<lambda>" (X.env.qual++"<lambda>") params body sc cl ((X.mg "__name__").getD .none) d ctv)) (fun b u e=>JQ _ e) (J2 _) (qj (Ki _ rfl)),rfl,q _ _ hf (T.bt up) ⟨d,_,ctv,cl,ae,up _ _ hd,e2,e3⟩ fun b o e _=>up b o e⟩
 |none=>
  refine PySem.W.kla_makeFunction e1 I.ok.glob G Vw (L.hd.keeps I.bk) oP tT hit L.gl BM fun d ctv h' tk ext Ym Md rec htb=>?_;generalize ho:PySem.W.kla_obj "<lambda>" (X.env.qual++"<lambda>") params body sc cl ((X.mg "__name__").getD .none) d ctv=lo;have hPd:P≠d:=Kq (Kf (Ka oP) Ym);have hPf:P≠h'.objs.size:=Kq (Kf (Ka oP) (Kx Ym (LJ Md)));have Ze:d≠h'.objs.size:=Kq Md;have nd:H d=none:=I.hok.fresh Ym;have nf:H h'.objs.size=none:=I.hok.fresh (Kx Ym (LJ Md))
  let H':Hp:=aI (aI (aI H P (.tbl (YE++#[rawInt pos.line,rawInt pos.col,.ref d]))) d (mS d (X.env.qual++"<lambda>"))) h'.objs.size (ip h'.objs.size lo)
  have up:∀b o,H b=some o->b≠P->H' b=some o:=fun b o e hb=>by
   show aI _ _ _ b=_;rw[am (az e nf),am (az e nd),am hb];exact e
  have upP:H' P=some (.tbl (YE++#[rawInt pos.line,rawInt pos.col,.ref d])):=by
   show aI _ _ _ P=_;rw[am hPf,am hPd,ae]
  have XF:H' d=some (mS d (X.env.qual++"<lambda>")):=by
   show aI _ _ _ d=_;rw[am Ze,ae]
  have upf:H' h'.objs.size=some (ip h'.objs.size lo):=ae;have dn:∀b o,s.heap.get? b=some o->H b=none->H' b=none:=fun b o e n=>by
   have hb:=Ka e;show aI _ _ _ b=_;rw[am (Kq (Kf hb (Kx Ym (LJ Md)))),am (Kq (Kf hb Ym)),am (fun z=>by rw[z,tP]at n;cases n)];exact n
  have keep:∀b o,b≠P->s.heap.get? b=some o->(h'.push lo).get? b=some o:=fun b o hb e=>JQ _ (ext b o hb e);have nP:∀b,H b=none->b≠P:=fun b n z=>by rw[z,tP]at n;cases n
  have nt:∀b u,H b=some u->(∀x,u≠.tbl x)->b≠P:=fun b u e no z=>by rw[z,tP]at e;exact no _ (Kw e).symm
  have hoP:(h'.push lo).get? P=some (PySem.W.tabObj (YE++#[rawInt pos.line,rawInt pos.col,.ref d])):=JQ _ htb;have un:Un X.fs [] H H' s.heap (h'.push lo):=by
   refine⟨fun b o e n _ _=>keep b o (nP b n) e,fun b o e n _ _=>⟨o.slots,keep b o (nP b n) e⟩,fun b o e n _=>dn b o e n,fun b o e _=>?_,fun b xs e=>up b _ e (nt b _ e fun x z=>nomatch z),fun b o u e=>up b _ e (nt b _ e fun x z=>nomatch z),fun b qs e=>?_⟩
   ·by_cases hb:b=P
    ·exact⟨_,by rw[hb];exact hoP⟩
    ·exact⟨o,keep b o hb e⟩
   ·by_cases hb:b=P
    ·subst hb;rw[tP]at e;cases e;exact⟨_,upP⟩
    ·exact⟨#[],by rw[up b _ e hb];simp⟩
  have hk:Oo X.prog X.w H' (h'.push lo):=fun b u e=>by
   by_cases h1:b=h'.objs.size
   ·subst h1;rw[upf]at e;cases e;exact qj (Ki _ (by rw[<-ho];rfl))
   ·by_cases h2:b=d
    ·subst h2;rw[XF]at e;cases e;exact AC (rec.push _)
    ·by_cases h3:b=P
     ·subst h3;rw[upP]at e;cases e;exact hoP
     ·have e':H b=some u:=by
       have e2:aI _ _ _ b=some u:=e;rw[am h1,am h2,am h3]at e2;exact e2
      refine(I.hok b u e').stay (fun cc v hc q=>?_) (fun cc q=>up cc _ q (nt cc _ q fun x z=>nomatch z)) fun cc xs q=>up cc _ q (nt cc _ q fun x z=>nomatch z);rcases hc with z|z
      ·rw[z]at q⊢;exact keep b v h3 q
      ·exact keep cc v (nt cc _ z fun x w=>nomatch w) q
  refine⟨.ref h'.objs.size,H',I.un (t':=tk) un hk,rfl,q _ _ nf ⟨_,upP,?_,fun p v e=>?_⟩ ⟨d,(X.mg "__name__").getD .none,ctv,cl,?_,XF,e2,e3⟩ up⟩
  ·rw[Array.toList_append];exact qk _ tT
  ·rw[Array.toList_append]at e;rcases uB _ tT e with z|z
   ·obtain⟨d',w1,w2⟩:=tA p v z;exact⟨d',w1,up _ _ w2 (nt _ _ w2 fun x w=>nomatch w)⟩
   ·exact⟨d,z,XF⟩
  ·rw[upf,<-ho]
end
abbrev ql(qual:Str)(sc:Scope)(L f:Ts)(c:Ts)(cl:List (Str×Ts)):Env:=PySem.W.envX qual sc L f (.ref c) cl
section
variable{x:Str}{ps:TH}
def AD{vs:TQ}{us:List Tr}{v:V}(h1:ps.length<=1)(h2:vs.length=ps.length)(r:N2 vs us)(a:ps[0]?=some x)(b:vs[0]?=some v):∃u,N3 v u/\(ps.zip us).reverse.lookup x=some u:=by
 cases ps with
 |nil=>cases a
 |cons y t=>
  have et:t=[]:=K9.mp (by simpa using h1);subst et;cases r with
  |nil=>cases b
  |cons r0 rr=>
   have ex:y=x:=by simpa using a
   subst ex;rename_i v' u' _ _;have ev:v'=v:=by simpa using b
   subst ev;exact⟨u',r0,by simp⟩
variable{sp:Sp}{fd:TB}{K:ZF}
def Ob.okC{P:Tv}{w:Tw}{mg:Str->Option Tr}{base:Heap}{x qual:Str}{st:Stmt}{f c:Ts}{N ps:TH}{k:Nat}(F:Ob K x qual st f fd)(hc:fd.code=.ref c)(S:av N ps (ak st))(len:∀vs H Q E,sp vs H Q E->vs.length=ps.length)
  (Up:∀(A:Tz)(outer:List Env)(s:Tu)(H:Hp)(vs:TQ)(Q:VK)(E:XK),N1 k (A.deeper (envOfC qual (ak st) s.heap.objs.size f (.ref c)))->sp vs H Q E->
   ∃t,O9 (m6 bZ P w K mg base N qual (ak st) f (.ref c) A outer s H E).nox (cA st) t/\t {nx:=fun _ H'=>Q .non H',rt:=Q} (start N vs) H):NZ P w K mg base bZ (k+1) f fd ps sp:=by
 obtain⟨oc,od,kV,doc,pm,an,Mb,ct,Uj,rfl,lk,Ug⟩:=F.ex;have hc':Mb=.ref c:=hc;subst hc';refine yg lk Ug S len fun A outer s H vs Q E hr UC=>?_;obtain⟨t,h,q⟩:=Up A outer s H vs Q E hr UC;exact⟨t,h.nox,q⟩
def xu{P:Tv}{w:Tw}{K:ZF}{mg mb:Str->Option Tr}{CX:xF}{k:Nat}{fa a c T:Ts}{fd:TB}{x:Str}{sp:Sp}{s₁:Tu}{vs:List Tr}{ns:List Int}
  (KX:K.In s₁.heap) (WX:s₁.heap.Ns mainGlobals mg) (hb:s₁.heap.Ns builtinsNs mb) (hbb:∀x:Str,x≠"__name__"->mb x=bootBuiltins x) (hlim:s₁.heap.NoLimit) (hg:s₁.gens=#[])
  (hbm:∃bm ob,mg "__builtins__"=some (.ref bm)/\bm≠builtinsNs/\s₁.heap.get? bm=some ob/\ob.cls=.type "module"/\ob.dict=some builtinsNs/\ob.data=.plain)
  (Ug:PySem.W.CodeHd s₁.heap c T) (hT:s₁.heap.get? T=some (PySem.W.tabObj #[])) (hKT:PySem.W.noTabs K=true)
  (ha:s₁.heap.get? a=some {cls:=.type "list",data:=.seq vs.toArray}) (hi:IntsAre vs ns) (hl:ns.length<=sizeLine) (hr:N1 k callerA)
  (F:∀base:Heap,K.In base->base.Ns mainGlobals mg->uC base mg c T->NZ P w K mg base CX k fa fd [x] sp) (U0:∀(s:Tu)(u:Tr),BindsTo s fd ⟨[u],[]⟩ [(x,u)])
  (UC:∀H:Hp,N0 K H a (ns.map V.int)->H T=some (.tbl #[])->sp [.ref a] H (fun v _=>v=.bl true) fun _ _ _=>False)
  (hCX:∀H e s',CX [] H s₁ (fun _ _ _=>False) e s'->False) :
  codeAny (model P w) callerA (.call (.ref fa) ⟨[.ref a],[]⟩) (fun r s'=>r=.ok (.ret (.bool true))/\OldK s₁.heap s'.heap/\s'.os=s₁.os/\AllBare s'.gens) s₁:=by
 have rv:=nQ hi;have lenV:=hi.length;have haT:a≠T:=fun z=>by
  rw[z,hT]at ha;cases ha
 have kT:K.lookup T=none:=by
  cases q:K.lookup T with
  |none=>rfl
  |some o=>
   have e:=KX T o q;rw[hT]at e;cases e;have h2:=KC.mp hKT (T,_) (PySem.W.mem_of_lookupK q);exact absurd (show false=true from h2) Kh
 have ZL:∀H:Hp,N0 K H a (ns.map V.int)->H T=some (.tbl #[])->Oo P w H s₁.heap->(∀b,H b≠none->b=a\/b=T)->(H a=none\/∃o xs,H a=some (.frz o (.lst xs)))->(H a≠none->K.lookup a=none)->
   codeAny (model P w) callerA (.call (.ref fa) ⟨[.ref a],[]⟩) (fun r s'=>r=.ok (.ret (.bool true))/\OldK s₁.heap s'.heap/\s'.os=s₁.os/\AllBare s'.gens) s₁:=by
  intro H hS hHT hok hA hO hK;have no:∀{b:Ts}{o:Obj},s₁.heap.get? b=some o->o.cls≠.none->o.cls≠.type "list"->H b=none:=fun{b o}e h1 h2=>by
   cases q:H b with
   |none=>rfl
   |some u=>
    rcases hA b (by rw[q];simp)with z|z
    ·subst z;rw[ha]at e;cases e;exact absurd rfl h2
    ·subst z;rw[hT]at e;cases e;exact absurd rfl h1
  have noD:∀{b:Ts}{o:Obj}{es:Array DictEntry}{ep:Nat},s₁.heap.get? b=some o->o.data=.dict es ep->H b=none:=fun{b o es ep}e d=>by
   cases q:H b with
   |none=>rfl
   |some u=>
    rcases hA b (by rw[q];simp)with z|z
    ·subst z;rw[ha]at e;cases e;cases d
    ·subst z;rw[hT]at e;cases e;cases d
  have Z7:∀{b:Ts}{m:Str->Option Tr},s₁.heap.Ns b m->(oG s₁.heap H).Ns b m:=fun{b m}⟨o,es,ep,e,d,r⟩=>⟨o,es,ep,i0 e (noD e d),d,r⟩;have hKb:K.In (oG s₁.heap H):=fun b o e=>i0 (KX b o e) (by
   cases q:H b with
   |none=>rfl
   |some u=>
    rcases hA b (by rw[q];simp)with z|z
    ·subst z;rw[hK (by rw[q];simp)]at e;cases e
    ·subst z;rw[kT]at e;cases e)
  have hM:Mod K mg (oG s₁.heap H):=⟨hKb,Z7 WX,⟨mb,Z7 hb,hbb⟩,let⟨mc,h1,h2⟩:=hlim;⟨mc,Z7 h1,h2⟩⟩;have hLC:uC (oG s₁.heap H) mg c T:=by
   refine⟨?_,?_,fun z=>?_⟩
   ·obtain⟨o,us,file,tf,ZU,tg,inF,text,tt,e1,e2,r⟩:=Ug;exact⟨o,us,file,tf,ZU,tg,inF,text,tt,i0 e1 (no e1 (by rw[e2];nofun) (by rw[e2];intro z;injection z with z;exact absurd z zd)),e2,r⟩
   ·obtain⟨bm,ob,b1,b2,b3,b4,b5,b6⟩:=hbm;refine⟨bm,ob,b1,b2,fun z=>?_,fun z=>?_,i0 b3 (no b3 (by rw[b4];nofun) (by rw[b4];intro z;injection z with z;exact absurd z zd)),b4,b5,b6⟩
    ·obtain⟨o,es,ep,e,d,_⟩:=WX;rw[<-z,b3]at e;cases e;rw[b6]at d;cases d
    ·rw[z,hT]at b3;cases b3;cases b4
   ·obtain⟨o,es,ep,e,d,_⟩:=WX;rw[z,hT]at e;cases e;cases d
  have e0:PN P w K mg (oG s₁.heap H) callerA [] s₁ H:=⟨rfl,hM,fun b o e=>Bj e,Nat.le_of_eq (wx _ _),trivial,fun b hb=>absurd (show b∈([]:List Ts)from hb) (by simp),hok,.of_eq hg⟩;refine C_ ((F _ hKb (Z7 WX) hLC).run callerA [] s₁ H ⟨[.ref a],[]⟩ [.ref a] [.ref a] _ _ hr e0 (U0 s₁ (.ref a)) (.cons rfl .nil) (UC H hS hHT)) fun r s' h=>?_;cases r with
  |error e=>exact(hCX H e s' h).elim
  |ok fl=>
   cases fl with
   |next=>exact False.elim h
   |brk=>exact False.elim h
   |cont=>exact False.elim h
   |ret u=>
    obtain⟨v,H',os,bare,un,ZG,r',q⟩:=h;have q':v=.bl true:=q;subst q';obtain rfl:u=Value.bool true:=r';obtain⟨more,hm⟩:=un.tbls T #[] hHT;have oT':s'.heap.get? T=some (PySem.W.tabObj (#[]++more)):=ZG T _ hm;have kp:∀b o,b≠T->s₁.heap.get? b=some o->s'.heap.get? b=some o:=fun b o Xy e=>by
     cases q:H b with
     |none=>exact un.keep b o e q (by intro z;exact absurd (show b∈([]:List Ts)from z) (by simp)) (by simp)
     |some u=>
      rcases hA b (by rw[q];simp)with z|z
      ·subst z;rcases hO with z|⟨ob,xs,z⟩
       ·rw[q]at z;cases z
       ·have z2:=un.frzs b ob _ z;obtain⟨e1,_⟩:=hok b _ z;obtain⟨e2,_⟩:=ZG b _ z2;rw[e]at e1;cases e1;exact e2
      ·exact absurd z Xy
    refine⟨rfl,⟨fun b o e=>?_,fun b o e=>?_⟩,os,bare⟩
    ·by_cases Xy:b=T
     ·subst Xy;rw[hT]at e;cases e;exact .inr (.inl ⟨(Ug.tab hT).isCodeTable,rfl,#[],more,rfl,oT'⟩)
     ·exact .inl (kp b o Xy e)
    ·by_cases Xy:b=T
     ·exact⟨_,by rw[Xy];exact oT'⟩
     ·exact⟨o,kp b o Xy e⟩
 cases hk:K.lookup a with
 |some o=>
  have e:=KX a o hk;rw[ha]at e;cases e;refine ZL (fun b=>if b=T then some (.tbl #[])else none) (.inr ⟨_,vs.toArray,_,hk,rfl,rfl,rfl,by rw[Ks,lenV];exact hl,by simpa using rv⟩) (g_ rfl) (fun b u z=>?_) (fun b z=>?_) (.inl (f_ haT)) fun z=>absurd (f_ haT) z
  ·by_cases hb:b=T
   ·have z':=(g_ hb).symm.trans z;cases z';subst hb;exact hT
   ·have z':=(f_ hb).symm.trans z;cases z'
  ·by_cases hb:b=T
   ·exact .inr hb
   ·exact absurd (f_ hb) z
 |none=>
  refine ZL (fun b=>if b=a then some (.frz {cls:=.type "list",data:=.seq vs.toArray} (.lst (ns.map V.int)))else if b=T then some (.tbl #[])else none) (.inl (.inr ⟨{cls:=.type "list",data:=.seq vs.toArray},g_ rfl⟩)) (by show(if T=a then _ else if T=T then _ else _)=_;rw[f_ haT.symm,g_ rfl]) (fun b u z=>?_) (fun b z=>?_) (.inr ⟨_,_,g_ rfl⟩) fun _=>hk
  ·by_cases hb:b=a
   ·have z':=(g_ hb).symm.trans z;cases z';subst hb;exact⟨ha,by rw[JY];exact hl,vs,_,rv,ha⟩
   ·have z':=(f_ hb).symm.trans z;by_cases hb2:b=T
    ·have z'':=(g_ hb2).symm.trans z';cases z'';subst hb2;exact hT
    ·have z'':=(f_ hb2).symm.trans z';cases z''
  ·by_cases hb:b=a
   ·exact .inl hb
   ·by_cases hb2:b=T
    ·exact .inr hb2
    ·exact absurd ((f_ hb).trans (f_ hb2)) z
def AE{l:PySem.W.OpenLaw}{n k:Nat}{q:Tv}{Vt:TH}{XP:(Str->Option Tr)->Heap->Prop}{YP:Tw->Heap->Prop}{d td:DefRec}{K:Params->ZF}{CX:xF}{sp:ZF->Ts->Sp}{x tx:Str}
  (hn:l.most=some n) (hn2:n<=sizeLine) (Ze:d.params.defaults=[]) (hr:N1 k callerA)
  (hY:∀(w:Tw)(h:Heap),YP w h->(K w.params).In h) (VU:∀w:Tw,PySem.W.noTabs (K w.params)=true) (htd:(recsOf q).find? (fun e=>e.name==tx)=some td) (htab:∀w:Tw,(PySem.W.tabIn (K w.params) tx).isSome=true)
  (F:∀(w:Tw)(mg:Str->Option Tr)(fa c T:Ts)(h:Heap),(K w.params).In h->h.Ns mainGlobals mg->mg d.name=some (.ref fa)->PySem.W.tabIn (K w.params) tx=some (c,T)->
   ∃fd:TB,(∀(s:Tu)(u:Tr),BindsTo s fd ⟨[u],[]⟩ [(x,u)]) /\
    ∀base:Heap,(K w.params).In base->base.Ns mainGlobals mg->uC base mg c T->NZ l.prog w (K w.params) mg base CX k fa fd [x] (sp (K w.params) T))
  (UC:∀(K:ZF)(T:Ts)(H:Hp)(a:Ts)(ns:List Int),ns.length<=n->N0 K H a (ns.map V.int)->H T=some (.tbl #[])->sp K T [.ref a] H (fun v _=>v=.bl true) fun _ _ _=>False)
  (hCX:∀(H:Hp)(s:Tu)(e:Tr)(s':Tu),CX [] H s (fun _ _ _=>False) e s'->False) :
  PySem.W.WalkO q Vt XP YP l.row.toRowW d [] (fun f vs=>PySem.call f vs):=by
 refine Att.attach_call hn Ze fun w s₀ s₁ mg mb fa o pm cd doc a vs ns G Y ho hd Ug hmg XR Wf LS hg=>?_;have KX:=hY w _ Y;obtain⟨⟨c,T⟩,ht⟩:=Option.isSome_iff_exists.mp (htab w);obtain⟨fd,hb,hF⟩:=F w mg fa c T _ KX G.T.g hmg ht;obtain⟨h1,h2⟩:=PySem.W.tab_of G.T KX htd ht;exact xu KX G.T.g G.T.b G.T.builtins G.T.nolimit hg G.T.bmain h1 h2 (VU w) XR Wf (Kx LS hn2) hr hF hb (fun H hS hT=>UC (K w.params) T H a ns LS hS hT) fun H e s'=>hCX H s₁ e s'
end
inductive Qo(e:Ts)(C:Ts)(d:Option Ts)(T:Ts)(fl:Tr)(h:Heap):Prop
 |mk(vs:Array Tr)(a0:Ts)(oT:Obj)(ts:Array Tr):h.get? e=some {cls:=.ref C,dict:=d,data:=.fields vs}->vs[0]?=some (.ref a0)->vs[1]?=some (.ref T)->T≠e->h.get? T=some oT->oT.data=.fields ts->ts[3]?=some fl->Qo e C d T fl h
structure Wr(fs:List Ts)(e T:Ts)(h h':Heap):Prop where
 keep:∀b o,h.get? b=some o->b∉fs->b≠e->b≠T->h'.get? b=some o
 slot:∀b o,h.get? b=some o->b∈fs->∃sl,h'.get? b=some {o with slots:=sl}
 old:∀o,h.get? T=some o->∃ts,o.data=.fields ts
 nf:T∉fs
inductive Jl(n:Nat)(H:Hp)(L:Ts)(pn:List Ts)(e:Ts)(C:Ts)(d:Option Ts)(h:Heap):Prop
 |mk(vs:Array Tr)(a0:Ts):h.get? e=some {cls:=.ref C,dict:=d,data:=.fields vs}->vs[0]?=some (.ref a0)->(vs[1]?=some .none\/∃T fl,Qo e C d T fl h/\n<=T/\H T=none/\T∉pn/\(fl=.none\/fl=rawInt L))->Jl n H L pn e C d h
def Qo.xo(x:Qo e C d T fl h):XO e C d true h:=by
 obtain⟨vs,a0,_,_,h1,h2,_⟩:=x;exact⟨vs,a0,h1,h2,fun z=>nomatch z⟩
def oA{o:Obj}{ts:Array Tr}{f:Array Tr->Array Tr}(hd:o.data=.fields ts)(hf:f ts=ts):o.mapFields f=o:=by
 obtain⟨c,d,dt,sl⟩:=o;cases hd;show Obj.mk c d (.fields (f ts)) sl=_;rw[hf]
section
variable{M:Model}{A:Tz}{E:Tr->Tu->Prop}{s:Tu}{base:Heap}{env:Env}{outer:List Env}{L e C T:Ts}{d:Option Ts}{fl:Tr}{Q:Unit->Tu->Prop}
def gv(x:Qo e C d T fl s.heap)(h:∀h',(∀b o,s.heap.get? b=some o->b≠T->h'.get? b=some o)->Qo e C d T (fr.elim .none fun f=>rawInt f) h'->Q () {s with heap:=h'}):wpAny M A (setFlight (.ref e) fr) Q E s:=by
 obtain⟨vs,a0,oT,ts,he,h0,h1,ne,hT,hd,h3⟩:=x;have hsz:3<ts.size:=(Array.getElem?_eq_some_iff.mp h3).1;unfold setFlight;refine a_ (j_ he rfl h1 ?_);rw[g_ (show(Value.ref T != Value.none)=true from by simp)];have k:∀b o,s.heap.get? b=some o->b≠T->(s.heap.update T (Obj.mapFields (·.setIfInBounds 3 (fr.elim Value.none fun f=>rawInt f)))).get? b=some o:=fun b o e' hb=>by
  rw[B_ _ _ (K_ hb)];exact e'
 refine v_ hT hd hsz (h _ k ?_);have Us:=RU hd (·.setIfInBounds 3 (fr.elim Value.none fun f=>rawInt f));exact⟨vs,a0,_,_,k _ _ he (K_ ne),h0,h1,ne,i_ _ hT (RD Us),Us,by simp[hsz]⟩
def oB{vs:Array Tr}{a0:Ts}{head:Tr}{hadNext:Bool}(VW:A.frames=some (env::outer))(hl:s.heap.FunFrames base (env::outer))(hf:env.frame=some L)
  (he:s.heap.get? e=some {cls:=.ref C,dict:=d,data:=.fields vs}) (h0:vs[0]?=some (.ref a0)) (hsz:1<vs.size)
  (h:∀h',Wr (ny (env::outer)) e s.heap.objs.size s.heap h'->Qo e C d s.heap.objs.size (rawInt L) h'->Q () {s with heap:=h'}) :
  wpAny M A (do let a <-frameOf env;let pl <-entryPlaceOf L hadNext;let b <-EntryCells.newEntry head a .none (rawInt L) .none pl;setField (.ref e) 1 b) Q E s:=by
 have ZH:e∉ny (env::outer):=fun hm=>by
  obtain⟨_,o,ho,hnf⟩:=hl.mem hm;rw[he]at ho;injection ho with ho;subst ho;exact hnf vs rfl
 refine a_ (wpAny_frameOf_fun VW hl hf fun h₁ hs₁=>?_);refine a_ (wpAny_entryPlaceOf fun pl TY=>?_);unfold EntryCells.newEntry newFields;refine a_ (w_ ?_ (TY.sizeOk5 _ _ _ _ _));generalize hts:([head,.ref L,.none,rawInt L,.none]++(if pl.isEmpty then List.replicate 6 Value.none else pl)).toArray=ts;have h3:ts[3]?=some (rawInt L):=by rw[<-hts];simp
 have he₁:h₁.get? e=some {cls:=.ref C,dict:=d,data:=.fields vs}:=(hs₁.2.1 e ZH).trans he;have he₂:=JQ (h:=h₁) {cls:=.type "traceback",dict:=none,data:=.fields ts} he₁;refine v_ he₂ rfl hsz ?_;have ZP:h₁.objs.size=s.heap.objs.size:=hs₁.1;have hTe:h₁.objs.size≠e:=LQ (Ka he₁);have he₃:=i_ (Obj.mapFields (·.setIfInBounds 1 (Value.ref h₁.objs.size))) he₂ rfl;have hT₃:=(B_ (h₁.push {cls:=.type "traceback",dict:=none,data:=.fields ts}) (Obj.mapFields (·.setIfInBounds 1 (Value.ref h₁.objs.size))) (K_ hTe)).trans (Ki h₁ rfl);have keep:∀b o,b≠e->h₁.get? b=some o->((h₁.push {cls:=.type "traceback",dict:=none,data:=.fields ts}).update e (Obj.mapFields (·.setIfInBounds 1 (Value.ref h₁.objs.size)))).get? b=some o:=fun b o Vp hb=>by
  rw[B_ _ _ (K_ Vp)];exact JQ _ hb
 rw[ZP]at he₃ hT₃ keep hTe⊢;refine h _ ⟨fun b o hb Zg Vp _=>keep b o Vp ((hs₁.2.1 b Zg).trans hb),fun b o hb Zg=>?_,fun o ho=>absurd (Ka ho) (K4 _),fun hm=>?_⟩ ?_
 ·obtain⟨sl,hs⟩:=hs₁.2.2 b o hb;exact⟨sl,keep b _ (fun z=>ZH (z▸Zg)) hs⟩
 ·obtain⟨_,o,ho,_⟩:=hl.mem hm;exact absurd (Ka ho) (K4 _)
 ·exact⟨_,a0,_,ts,he₃,by rw[L_ zd];exact h0,by simp[hsz],hTe,hT₃,rfl,h3⟩
def mV{n:Nat}{H:Hp}{pn:List Ts}(VW:A.frames=some (env::outer))(hl:s.heap.FunFrames base (env::outer))(hf:env.frame=some L)(x:Jl n H L pn e C d s.heap)(hn:n<=s.heap.objs.size)
  (hH:∀a,s.heap.objs.size<=a->H a=none) (hp:∀a∈pn,a<s.heap.objs.size)
  (h:∀h' T,Wr (ny (env::outer)) e T s.heap h'->Qo e C d T (rawInt L) h'->n<=T->H T=none->T∉pn->Q () {s with heap:=h'}):wpAny M A (noteFrame (.ref e) env) Q E s:=by
 obtain⟨vs,a0,he,h0,hm⟩:=x;have new:∀h',Wr (ny (env::outer)) e s.heap.objs.size s.heap h'->Qo e C d s.heap.objs.size (rawInt L) h'->Q () {s with heap:=h'}:=fun h' w q=>h h' _ w q hn (hH _ (J2 _)) fun z=>absurd (hp _ z) (K4 _);unfold noteFrame;simp only[hf];rcases hm with h1|⟨T,fl,x,nT,fT,pT,fl0|fl1⟩
 ·refine a_ (j_ he rfl h1 ?_);rw[f_ zd];exact oB VW hl hf he h0 (Array.getElem?_eq_some_iff.mp h1).1 new
 ·subst fl0;obtain⟨WQ,a0',oT,ts,VM,h0',h1,ne,hT,hd,h3⟩:=x;rw[he]at VM;have ev:vs=WQ:=by injection VM with e1;injection e1 with _ _ e2 _;injection e2
  subst ev;refine a_ (j_ he rfl h1 ?_);rw[g_ (show(Value.ref T != Value.none)=true from by simp)];refine a_ (j_ hT hd h3 ?_);rw[f_ (show¬((Value.none==rawInt L)=true)from by simp[rawInt])];have hsz:3<ts.size:=(Array.getElem?_eq_some_iff.mp h3).1;refine a_ (v_ hT hd hsz ?_);have same:ts.setIfInBounds 3 Value.none=ts:=by
   apply Array.ext_getElem?;intro i;by_cases hi:3=i
   ·subst hi;rw[h3];simp[hsz]
   ·rw[L_ hi]
  have all:∀b,(s.heap.update T (Obj.mapFields (·.setIfInBounds 3 Value.none))).get? b=s.heap.get? b:=fun b=>by
   by_cases hb:b=T
   ·rw[hb];have:=i_ (Obj.mapFields (·.setIfInBounds 3 Value.none)) hT (by rw[oA hd same];exact RD hd);rw[this,oA hd same,hT]
   ·exact B_ _ _ (K_ hb)
  refine oB (hadNext:=true) VW (hl.of_keeps fun b o hb _=>⟨o,(all b).trans hb,rfl⟩) hf ((all e).trans he) h0 (Array.getElem?_eq_some_iff.mp h1).1 fun h' w q=>?_;have hs:(s.heap.update T (Obj.mapFields (·.setIfInBounds 3 Value.none))).objs.size=s.heap.objs.size:=Heap.size_after_update _ _ _;dsimp only at w q;rw[hs]at w q;refine new h' ⟨fun b o hb=>w.keep b o ((all b).trans hb),fun b o hb=>w.slot b o ((all b).trans hb),fun o ho=>w.old o ((all _).trans ho),w.nf⟩ q
 ·subst fl1;obtain⟨WQ,a0',oT,ts,VM,h0',h1,ne,hT,hd,h3⟩:=id x;refine a_ (j_ VM rfl h1 ?_);rw[g_ (show(Value.ref T != Value.none)=true from by simp)];refine a_ (j_ hT hd h3 ?_);rw[g_ (show(rawInt L==rawInt L)=true from by simp)];refine c_ ?_;have:=h s.heap T ⟨fun b o hb _ _ _=>hb,fun b o hb _=>⟨o.slots,hb⟩,fun o ho=>?_,fun hm=>?_⟩ x nT fT pT
  ·exact this
  ·rw[hT]at ho;cases ho;exact⟨ts,hd⟩
  ·obtain⟨_,o,ho,hnf⟩:=hl.mem hm;rw[hT]at ho;cases ho;exact hnf ts hd
end
def Wr.then(w:Wr fs e T h h1)(k:∀b o,h1.get? b=some o->b≠T->h2.get? b=some o):Wr fs e T h h2:=
 ⟨fun b o hb hf he hT=>k b o (w.keep b o hb hf he hT) hT,fun b o hb hf=>let⟨sl,q⟩:=w.slot b o hb hf;⟨sl,k b _ q fun z=>w.nf (z▸hf)⟩,w.old,w.nf⟩
def Wr.un(w:Wr fs e T h h')(x:Qo e C d T fl h')(He:H e=some (.ext φ)):Un fs [T] H H h h':=by
 obtain⟨vs,a0,oT,ts,he,_,_,_,hT,_⟩:=x;refine⟨fun b o hb n hf hT'=>w.keep b o hb hf (fun z=>by rw[z,He]at n;cases n) (by simpa using hT'),fun b o hb _ hf _=>w.slot b o hb hf,fun _ _ _ n _=>n,fun b o hb hT'=>?_,fun _ _ q=>q,fun _ _ _ q=>q,fun b ps q=>⟨#[],by rw[q];simp⟩⟩;by_cases Vp:b=e
 ·exact⟨_,Vp▸he⟩
 ·by_cases hf:b∈fs
  ·obtain⟨sl,q⟩:=w.slot b o hb hf;exact⟨_,q⟩
  ·exact⟨o,w.keep b o hb hf Vp (by simpa using hT')⟩
def Wr.hok(w:Wr fs e T h h')(x:Qo e C d T fl h')(He:H e=some (.ext (XO e C d true)))(hT:H T=none)(hf:∀b∈fs,H b=none)(ok:Oo P wd H h):Oo P wd H h':=by
 intro a o ha;have k:∀b o',H b=some o'->b≠e->∀u,h.get? b=some u->h'.get? b=some u:=fun b o' hb ne u q=>w.keep b u q (fun z=>by rw[hf b z]at hb;cases hb) ne (az hb hT);by_cases hae:a=e
 ·subst hae;rw[He]at ha;cases ha;obtain⟨vs,a0,oT,ts,he,_⟩:=id x;exact iY x.xo ⟨_,he⟩ XO.stay
 ·refine(ok a o ha).stay (fun b u hb q=>?_) (fun _ q=>q) fun _ _ q=>q;rcases hb with rfl|hb
  ·exact k _ _ ha hae u q
  ·exact k _ _ hb (fun z=>by rw[z,He]at hb;cases hb) u q
def kX(P:Tv)(w:Tw):xF:=fun outer H s E e s'=>∃a H' C d T,e=.ref a/\s'.os=s.os/\AllBare s'.gens/\Un (ny outer) [] H H' s.heap s'.heap/\Oo P w H' s'.heap/\H' a=some (.ext (XO a C d true))/\Qo a C d T .none s'.heap /\
 s.heap.objs.size<=T/\H' T=none/\E e none H'
inductive DM(X:Cx)(H:Hp)(h:Heap)(a:Ts):Prop
 |mk(C d:_):H a=some (.ext (XO a C d true))->Jl X.s₀.heap.objs.size H X.env.locals (X.pn.map (·.1)) a C d h->DM X H h a
inductive j8(X:Cx)(ES:St->XK)(e:Tr)(s:Tu):Prop
 |mk(a σ H:_):e=.ref a->NX X [] σ H s->DM X H s.heap a->ES σ e none H->j8 X ES e s
def HE(X:Cx)(ES:St->XK):Prop:=∀e s',j8 X ES e s'->X.xe e s'
abbrev Cx.esc(X:Cx)(ES:St->XK):Cx:=X.wish (j8 X ES)
section
variable{X:Cx}{pins:List (Ts×Obj)}{σ:St}{H:Hp}{s:Tu}{ES:St->XK}{E:XK}
def fS:HE (X.esc ES) ES:=fun e s'⟨a,σ,H,h1,I,⟨C,d,h2,h3⟩,h4⟩=>⟨a,σ,H,h1,I.unwish,⟨C,d,h2,h3⟩,h4⟩
def NX.pn_lt(I:NX X pins σ H s):∀a∈X.pn.map (·.1),a<s.heap.objs.size:=fun a ha=>by
 obtain⟨p,hp,rfl⟩:=Kr.mp ha;exact Ka (I.pin p (K3 _ hp)).1
def NX.frame1(I:NX X pins σ H s)(M':X.stack=X.env::X.outer):X.env.frame=some X.env.locals:=by
 rcases I.ok.stk with e|⟨_,e⟩
 ·rw[M']at e;exact absurd e (by intro z;have:=e_ List.length z;simp at this)
 ·exact e
def NX.wr(I:NX X pins σ H s)(W:Wr (ny X.stack) e T s.heap h')(x:Qo e C d T fl h')(He:H e=some (.ext (XO e C d true)))(hT:H T=none)(hn:X.s₀.heap.objs.size<=T)
  (hp:∀p∈X.pn++pins,p.1≠T):NX X pins σ H {s with heap:=h'}:=by
 have:=I.call (g':=s.gens) (t':=s.toks) (d':=s.drawn) (ch:=[T]) (W.un x He) (W.hok x He hT I.stkFree I.hok) I.bare (fun b hb=>?_)
 ·exact this
 ·have Ub:b=T:=by simpa using hb
  subst Ub;refine⟨.inr hn,fun z=>?_,fun y c hc z=>?_,hp⟩
  ·obtain⟨m,⟨o,es,ep,ho,hd,_⟩,_⟩:=I.loc;obtain⟨ts,Us⟩:=W.old o (by rw[z];exact ho);rw[hd]at Us;cases Us
  ·obtain⟨v,o,ho,hd⟩:=I.cell y c hc;obtain⟨ts,Us⟩:=W.old o (by rw[<-z];exact ho);rw[hd]at Us;cases Us
def NX.nopins(I:NX X pins σ H s):NX X [] σ H s:=NX.unpinned (pins:=[]) (pl:=pins) I
def HF(I:NX X pins σ H s)(h:kX X.prog X.w X.stack H s (ES σ) e s'):j8 X ES e s':=by
 obtain⟨a,H',C,d,T,rfl,os,bare,un,hok,He,x,nT,fT,q⟩:=h;have J:NX X pins σ H' s':=I.call' (ch:=[]) os un hok bare (fun b z=>absurd z (by simp));obtain⟨vs,a0,oT,ts,he,h0,h1,_⟩:=id x;exact⟨a,σ,H',rfl,J.nopins,⟨C,d,He,vs,a0,he,h0,.inr ⟨T,.none,x,Kx I.sz nT,fT,fun z=>absurd (Kf (I.pn_lt T z) nT) (K4 _),.inl rfl⟩⟩,q⟩
end
def O9.wishTo{X:Cx}{E:Tr->Tu->Prop}{st:List Stmt}{t:TS}(h:O9 (X.wish E) st t)(k:∀e s',E e s'->X.xe e s'):O9 X st t:=⟨fun pins s σ H D I hw=>
 m_ (h pins s σ H D (I.wish _) hw) (fun _ _ q=>q.unwish) fun e s' z=>k e s' z⟩
section
variable{P:Tv}{w:Tw}{K:ZF}{mg:Str->Option Tr}{base:Heap}
def Fy{N:TH}{qual:Str}{sc:Scope}{f:Ts}{cd:Tr}{A:Tz}{outer:List Env}{s:Tu}{H:Hp}{E:XK}(e:Tr)(s':Tu)
  (h:j8 (m6 (kX P w) P w K mg base N qual sc f cd A outer s H E) (fun _=>E) e s'):(m6 (kX P w) P w K mg base N qual sc f cd A outer s H E).xe e s':=by
 obtain⟨a,σ,H',he,I,⟨C,d,He,fl⟩,q⟩:=h;subst he;show wpAny (model P w) _ (leaving _ (.ref a)) _ _ s';unfold leaving;refine a_ (mV (base:=base) I.ok.frames I.stack rfl fl I.sz (fun b hb=>I.hok.fresh hb) I.pn_lt fun h' T w x nT fT pT=>gv (s:={s' with heap:=h'}) x fun UT k x'=>?_);have W:=w.then k;have J:=I.wr (h':=UT) W x' He fT nT (fun p hp=>absurd hp (by show p∉([]:List (Ts×Obj))++[];simp));exact⟨a,H',C,d,T,rfl,J.os,J.bare,J.base,J.hok,He,x',nT,fT,q⟩
variable{sp:Sp}{fd:TB}{f:Ts}
def Ob.okX{x qual:Str}{st:Stmt}{N ps:TH}{k:Nat}(F:Ob K x qual st f fd)(S:av N ps (ak st))(len:∀vs H Q E,sp vs H Q E->vs.length=ps.length)
  (Up:∀(Mb:Tr)(A:Tz)(outer:List Env)(s:Tu)(H:Hp)(vs:TQ)(Q:VK)(E:XK),N1 k (A.deeper (envOfC qual (ak st) s.heap.objs.size f Mb))->sp vs H Q E->
   ∃t,O9 ((m6 (kX P w) P w K mg base N qual (ak st) f Mb A outer s H E).esc fun _=>E) (cA st) t/\t {nx:=fun _ H'=>Q .non H',rt:=Q} (start N vs) H):NZ P w K mg base (kX P w) (k+1) f fd ps sp:=by
 obtain⟨oc,od,kV,doc,pm,an,Mb,ct,Uj,rfl,lk,Ug⟩:=F.ex;refine yg lk Ug S len fun A outer s H vs Q E hr UC=>?_;obtain⟨t,h,q⟩:=Up Mb A outer s H vs Q E hr UC;exact⟨t,h.wishTo Fy,q⟩
def NZ.calm{k:Nat}{ps:TH}(F:NZ P w K mg base (kX P w) k f fd ps sp):NZ P w K mg base bZ k f fd ps (fun vs H Q _=>sp vs H Q E0):=
 ⟨fun vs H Q E q=>F.len vs H Q E0 q,fun A outer s H args us vs Q E hr he hb hv hs=>C_ (F.run A outer s H args us vs Q E0 hr he hb hv hs) fun r s' hq=>by
  cases r with
  |error e=>
   obtain⟨_,_,_,_,_,_,_,_,_,_,_,_,_,_,z⟩:=hq;exact z.elim
  | ok fl=>cases fl<;>exact hq⟩
end
section
variable{X:Cx}{k:Nat}{f C:Ts}{fd:TB}{ps:TH}{sp:Sp}{dvs:TQ}{ds:List Tr}{ES:St->XK}{x m:Str}{p pos B':Pos}{e o:Expr}{es:List Expr}{ta:TE}{t:TA}
def wf(F:NZ X.prog X.w X.K X.mg X.base (kX X.prog X.w) k f fd ps sp)(hr:N1 k X.A)(hb:Oa X.K fd ps ds)(hd:N2 dvs ds)(hx:HE X ES)
  (I:NX X pins σ H s) (r:N2 vs us) (h:sp (vs++dvs) H Q (ES σ)):wpAny (model X.prog X.w) X.A (call (.ref f) us) (EP X pins σ Q) X.xe s:=by
 have r2:N2 (vs++dvs) (us++ds):=r.append hd;have hl:(us++ds).length=ps.length:=by rw[<-r2.length];exact F.len _ _ _ _ h
 refine J_ (C_ (F.run X.A X.stack s H ⟨us,[]⟩ (us++ds) (vs++dvs) Q (ES σ) hr I.env0 (hb s us I.kIn hl) r2 h) fun r s' hq=>?_);cases r with
 |error e=>exact hx e s' (HF I hq)
 |ok fl=>
  cases fl with
  |ret u=>exact I.after hq
  |next=>exact False.elim hq
  |brk=>exact False.elim hq
  |cont=>exact False.elim hq
inductive wg(C:Ts)(m:Str)(sp:Sp)(dvs:TQ)(ES:St->XK)(t:TA)(σ:St)(Q:VK)(x:V)(H1:Hp):Prop
 |mk(a dx fs:_):x=.ref a->H1 a=some (.ins C dx fs)->fs.lookup m=none->(t σ H1 fun vs H2=>sp (x::(vs++dvs)) H2 Q (ES σ))->wg C m sp dvs ES t σ Q x H1
def uD(C:Ts)(m:Str)(sp:Sp)(dvs:TQ)(ES:St->XK)(ta:TE)(t:TA):TE:=fun σ H Q=>ta σ H fun x H1=>wg C m sp dvs ES t σ Q x H1
def jB(he:PE X o ta)(c:PP X.K C)(hm:qG X.K C m f)(F:NZ X.prog X.w X.K X.mg X.base (kX X.prog X.w) k f fd ps sp)(hr:N1 k X.A)(hb:Oa X.K fd ps ds)(hd:N2 dvs ds)(hx:HE X ES)(ha:PA X (e::es) t)
  (M':starEach (e::es) X.env=(false,eval e X.env)::starEach es X.env:=by rfl) (TY:(backTo pos (starEach es X.env)).any (·.1)=false:=by rfl)
  (ht:eval (.Call (.Attribute o m B') (e::es) [] pos) X.env=(do
   let ov <-eval o X.env
   standAt B'.atName
   let(f,first) <-holding [ov] (getMethod ov m pl)
   callWith pos f first (backTo pos (starEach (e::es) X.env)) (backToKw pos (keywordEach [] X.env))):=by rfl) :
  PE X (.Call (.Attribute o m B') (e::es) [] pos) (uD C m sp dvs ES ta t):=by
 walk_at "p";refine A_ (pl:=pl) (bH (he pins s σ H _ I h) fun u s1 hZZ=>?_) ht;obtain⟨x,H1,I1,rx,a,dx,fs,ex,ea,l,q⟩:=hZZ;subst ex;obtain rfl:u=Value.ref a:=rx;refine fZ I1 ea c hm l ?_;refine Lb (first:=[.ref a]) (h₀:=X.base) I.ok.mod.kin hm.kp (bH (ha pos pins s1 σ H1 _ I1 q) fun us s2⟨vs,H2,I2,r,q2⟩=>⟨I2.kIn,?_⟩) M' TY;exact wf (us:=.ref a::us) (vs:=.ref a::vs) F hr hb hd hx I2 (.cons rfl r) q2
end
section
variable{prog:Tv}{w:Tw}{A:Tz}{E:Tr->Tu->Prop}{h:Heap}{g:Array GenState}{dr:Drawn}{t:Nat}{os:OsState}
variable{o:Obj}{a:Ts}
def oC{vs:Array Tr}{Q:Bool->Tu->Prop}(ha:h.get? a=some o)(hd:o.data=.fields vs)(hq:Q false ⟨h,g,dr,t,os⟩):wpAny (model prog w) A (isType (.ref a)) Q E ⟨h,g,dr,t,os⟩:=by
 simp only[isType,loadHead];refine a_ (Rj ha ?_);rw[hd];exact c_ hq
def eW{Q:Tr->Tu->Prop}(ha:h.get? a=some o)(hq:Q o.cls ⟨h,g,dr,t,os⟩):wpAny (model prog w) A (typeOf (.ref a)) Q E ⟨h,g,dr,t,os⟩:=by
 simp only[typeOf];exact a_ (Rj ha (c_ hq))
end
section
variable{X:Cx}{pins:List (Ts×Obj)}{σ:St}{H:Hp}{s:Tu}{ES:St->XK}{e:Expr}{te:TE}{pos:Pos}
inductive wj(K:ZF)(ES:St->XK)(σ:St)(x:V)(H1:Hp):Prop
 |mk(a C d fs nm bm:_):x=.ref a->O3 H1 a C d false fs->XC K C nm bm->ES σ (.ref a) none (aI H1 a (.ext (XO a C d true)))->wj K ES σ x H1
def AF(K:ZF)(te:TE)(ES:St->XK):TS:=fun _ σ H=>te σ H fun x H1=>wj K ES σ x H1
def AG(he:PE X e te)(hx:HE X ES)(hc:X.calm=true):PS X (.Raise (some e) none pos) (AF X.K te ES):=by
 refine⟨fun pins s σ H D I h=>?_⟩;show wpAny _ _ (do standAt pos;raiseStmt X.env (some (do let v <-eval e X.env;standAt pos;pure v)) none) _ _ s;refine a_ (Rb ?_);unfold raiseStmt;dsimp only;refine a_ (a_ (m_ (he pins s σ H _ I h) (fun v s₁ h₁=>a_ (Rb (c_ ?_))) fun _ _ x=>x));obtain⟨x,H1,I1,rx,a,C,d,fs,nm,bm,ex,xa,c,q⟩:=h₁;subst ex;obtain rfl:v=Value.ref a:=rx;obtain⟨vs,a0,ha,h0,h1⟩:=xa.obj I1;have hb:(Value.ref C::bm).contains (.type "BaseException")=true:=c.tl.has C "BaseException" true zk;obtain⟨q0,N,bs,sn,Ui,ab,col,dd,k0,k1,k2,k3,k5,lk⟩:=c.obj;have hC:=I1.kIn _ _ lk;have hh:X.A.handled=none:=I1.ok.hd hc;have I2:=I1.write (o:=.ext (XO a C d true)) (x:=a) (e:=a) (t':=s₁.toks) (h':=s₁.heap) (by rw[xa.1];exact True.intro) (.inl rfl) (fun b u _ z=>z) ⟨_,ha⟩ (iY ⟨vs,a0,ha,h0,fun z=>nomatch z⟩ ⟨_,ha⟩ XO.stay);have F':X.xe (.ref a) s₁:=hx _ _ ⟨a,σ,_,rfl,I2.nopins,⟨C,d,ae,vs,a0,ha,h0,.inl (h1 rfl)⟩,q⟩;obtain⟨hp,g,dr,t,os⟩:=s₁;refine a_ (c_ ?_);dsimp only;refine a_ (q_ ?_);unfold excFromValue isExcClass;refine a_ (a_ (oC ha rfl ?_));simp only[z_,Pi];refine c_ ?_;simp only[z_,Pi];unfold isInstance;refine a_ (a_ (eW ha (y_ hC ?_)));rw[hb];simp only[O_];refine c_ ?_;refine a_ (oC ha rfl ?_);simp only[z_,Pi];unfold raisedInstance;refine a_ (a_ (eW ha (a_ (eW hC ?_))));rw[g_ (by rfl)];refine c_ ?_;unfold setFlight raiseNew;refine a_ (a_ (j_ ha rfl (h1 rfl) ?_));rw[f_ zd];refine c_ (a_ (wpAny_handled ?_));rw[hh];first
  |exact wpAny_throw F'
  |exact a_ (c_ (wpAny_throw F'))
end
section
variable{prog:Tv}{w:Tw}{A:Tz}{E:Tr->Tu->Prop}{h:Heap}{g:Array GenState}{dr:Drawn}{t:Nat}{os:OsState}
variable{Q:Bool->Tu->Prop}
def uE{a:Ts}{o:Obj}{cd:ClassData}(ha:h.get? a=some o)(hd:o.data=.cls cd)(hq:Q true ⟨h,g,dr,t,os⟩):wpAny (model prog w) A (isType (.ref a)) Q E ⟨h,g,dr,t,os⟩:=by
 simp only[isType,loadHead];refine a_ (Rj ha ?_);rw[hd];exact c_ hq
def AH{e C C':Ts}{oe:Obj}{nm q Vy q':Str}{N N':Ts}{bs bm bs' V6:List Tr}{hdct ZS:Bool}{sn sn' Ui XH ab ab' col XZ dd V0 k0 k0' k1 k1' k2 k2' k3 k3' k5 Ye Uz newId'}{Q:Bool->Tu->Prop}(he:h.get? e=some oe)(XW:oe.cls=.ref C)(hC:h.get? C=some (excClassObj nm q C N bs bm hdct sn Ui ab col dd k0 k1 k2 k3 k5 Uz))
  (Zh:h.get? C'=some (excClassObj Vy q' C' N' bs' V6 ZS sn' XH ab' XZ V0 k0' k1' k2' k3' Ye newId')) (Ub:(Value.ref C'::V6).contains (.type "BaseException")=true) (hq:Q ((Value.ref C::bm).contains (.ref C')) ⟨h,g,dr,t,os⟩) :
  wpAny (model prog w) A (excMatches (.ref e) (.ref C')) Q E ⟨h,g,dr,t,os⟩:=by
 unfold excMatches isInstance;refine a_ (a_ (eW Zh (wpAny_of_eq (a:=false) (by rfl) ?_)));simp only[z_,Pi];refine a_ (c_ ?_);simp only[forIn,ForIn.forIn,List.forIn'_cons,List.forIn'_nil,H_,List.forIn_nil];unfold isExcClass;refine a_ ?_;refine a_ ?_;refine a_ (a_ (uE Zh rfl ?_));simp only[O_];refine y_ Zh ?_;rw[Ub];simp only[Bool.not_true,z_,Pi];refine c_ (c_ ?_);refine a_ (eW he ?_);rw[XW];refine a_ (a_ (a_ (y_ hC ?_)));generalize (Value.ref C::bm).contains (.ref C')=b at hq⊢;cases b with
 |true=>
  simp only[O_];exact c_ (c_ (c_ hq))
 |false=>
  simp only[z_,Pi];exact c_ (c_ (c_ hq))
end
abbrev Cx.alt(X:Cx)(A:Tz)(calm:Bool)(pn:List (Ts×Obj))(xe:Tr->Tu->Prop):Cx:={X with A:=A,calm:=calm,pn:=pn,xe:=xe}
abbrev Cx.bear(X:Cx)(pn:List (Ts×Obj)):Cx:=X.alt X.A X.calm pn X.xe
abbrev Cx.suite(X:Cx)(A:Tz)(pn:List (Ts×Obj)):Cx:=X.alt A false pn fun _ _=>False
section
variable{X:Cx}{pins pins' pn:List (Ts×Obj)}{σ:St}{H:Hp}{s:Tu}{A:Tz}{calm:Bool}{xe:Tr->Tu->Prop}
def NX.alt(I:NX X pins σ H s)(hA:A.frames=some X.stack)(hc:calm=true->A.handled=none)(hp:∀p∈pn++pins',p∈X.pn++pins):NX (X.alt A calm pn xe) pins' σ H s:=
 ⟨⟨I.ok.mod,I.ok.kind,I.ok.glob,I.ok.blt,I.ok.above,I.ok.inj,I.ok.has,I.ok.cab,hc,hA,I.ok.stk,I.ok.exf,I.ok.bs,I.ok.bsz,I.ok.noex,I.ok.exfs,I.ok.funs,I.ok.frf⟩,I.os,I.bare,I.base,I.loc,I.cell,I.free,I.freeC,fun p h=>I.pin p (hp p h),I.hok,I.len⟩
def NX.unalt(I:NX (X.alt A calm pn xe) pins' σ H s)(ok:X.Ok)(hp:∀p∈X.pn++pins,p∈pn++pins'):NX X pins σ H s:=
 ⟨ok,I.os,I.bare,I.base,I.loc,I.cell,I.free,I.freeC,fun p h=>I.pin p (hp p h),I.hok,I.len⟩
def NX.unset(I:NX X pins σ H s)(hN:X.N.Nodup)(hi:X.N[i]?=some n)(hn:s.heap.Ns X.env.locals m)(hl:∀(i:Nat)(x:Str)(v:V),X.N[i]?=some x->σ[i]?=some (some v)->FZ X.env.scope x->∃u,N3 v u/\Gd X.env s.heap m x u)
  (UR:h'.Ns X.env.locals fun x=>if x=n then v else m x) (hs:Heap.SameBut X.env.locals s.heap h'):NX X pins (σ.set i none) H {s with heap:=h',toks:=t'}:=by
 have hiσ:i<σ.length:=by rw[I.len];exact(JV.mp hi).1
 have cne:=I.cne;obtain⟨oL,_,_,hoL,_⟩:=id hn;refine⟨I.ok,I.os,I.bare,⟨fun b o e n hb hx=>?_,fun b o e n hb hx=>?_,I.base.free,fun b o e hx=>?_,I.base.tups,I.base.frzs,I.base.tbls⟩,⟨_,UR,fun j y v' e1 e2 e3=>?_⟩,fun y c e=>?_,I.free,I.freeC,fun p hp=>?_,fun b ob e=>?_,by simpa using I.len⟩
 ·exact(hs.2 b (Kq (Kf (Ka e) I.ok.above))).trans (I.base.keep b o e n hb hx)
 ·obtain⟨sl,e1⟩:=I.base.slot b o e n hb hx;exact⟨sl,(hs.2 b (Kq (Kf (Ka e) I.ok.above))).trans e1⟩
 ·obtain⟨o',e1⟩:=I.base.there b o e hx;exact⟨o',(hs.2 b (Kq (Kf (Ka e) I.ok.above))).trans e1⟩
 ·by_cases hj:j=i
  ·subst hj;rw[Rk hiσ]at e2;cases e2
  ·rw[Rs (K_ hj)]at e2;obtain⟨u',r',q⟩:=hl j y v' e1 e2 e3;refine⟨u',r',?_⟩;rcases q with⟨k,e⟩|⟨k,c,e,z⟩
   ·refine .inl ⟨k,?_⟩;have:y≠n:=fun e=>hj (lj hN e1 (e▸hi));simp[this,e]
   ·exact .inr ⟨k,c,e,z.sameBut hs (cne y c e)⟩
 ·obtain⟨w',z⟩:=I.cell y c e;exact⟨w',z.sameBut hs (cne y c e)⟩
 ·obtain⟨e,n,ne,nf,d⟩:=I.pin p hp;exact⟨(hs.2 p.1 ne).trans e,n,ne,nf,d⟩
 ·refine(I.hok b ob e).stay (fun c w' hc q=>(hs.2 c ?_).trans q) (fun _ q=>q) fun _ _ q=>q;rintro rfl;rcases hc with rfl|hc
  ·rw[I.free]at e;cases e
  ·rw[I.free]at hc;cases hc
end
section
variable{X:Cx}{body suite:List Stmt}{b₀:Stmt}{tb:(St->XK)->TS}{th:TS}{n cn:Str}{cp Uw pos:Pos}{i:Nat}{C':Ts}{Vy:Str}{V6:List Tr}
def Ow.drop(D:Ow)(i:Nat):Ow:={nx:=fun σ H=>D.nx (σ.set i none) H,rt:=D.rt,bk:=fun σ H=>D.bk (σ.set i none) H,ct:=fun σ H=>D.ct (σ.set i none) H}
def AI(K:ZF)(C':Ts)(i:Nat)(th:TS)(D:Ow):St->XK:=fun σ e _ H=>∃a C d fs nm bm,e=.ref a/\O3 H a C d true fs/\XC K C nm bm/\(Value.ref C::bm).contains (.ref C')=true/\th (D.drop i) (σ.set i (some (.ref a))) H
def Jm(K:ZF)(tb:(St->XK)->TS)(C':Ts)(i:Nat)(th:TS):TS:=fun D σ H=>tb (AI K C' i th D) D σ H
def C1(x:O3 H a C d true fs)(ok:Oo P w H h)(y:∃vs:Array Tr,h.get? a=some {cls:=.ref C2,dict:=d2,data:=.fields vs}):C=C2/\d=d2:=by
 obtain⟨⟨vs,a0,h1,_⟩,_⟩:=(show N7 P w H h a (.ext (XO a C d true))from ok a _ x.1);obtain⟨vs2,h2⟩:=y;rw[h1]at h2;injection h2 with h3;injection h3 with h4 h5;injection h4 with h6;exact⟨h6,h5⟩
def Fz(M':X.stack=X.env::X.outer)(hb:∀(pn:List (Ts×Obj))(ES:St->XK),O9 ((X.bear pn).esc ES) body (tb ES))(hs:∀(A:Tz)(pn:List (Ts×Obj)),O9 (X.suite A pn) (b₀::suite) th)
  (hg:Gl X cn) (hm:X.mg cn=some (.ref C')) (c':XC X.K C' Vy V6) (hN:X.N.Nodup) (hi:X.N[i]?=some n) (hl:X.env.kindOf n=some .local) (Ul:(cn==("__debug__":Str))=false:=by decide) :
  PS X (.Try body [.ExceptHandler (some (.Name cn cp)) (some n) (b₀::suite) Uw] [] [] pos) (Jm X.K tb C' i th):=by
 refine⟨fun pins s σ H D I h=>?_⟩;have ok:=I.ok;have I0:NX (X.bear (X.pn++pins)) [] σ H s:=I.alt ok.frames ok.hd (fun p hp=>by rwa [KB]at hp);have Wb:∀{A calm xe σ H s},NX (X.alt A calm (X.pn++pins) xe) [] σ H s->NX X pins σ H s:=fun J=>J.unalt ok (fun p hp=>by rwa [KB]);refine wpAny_Try_except (m_ ((hb (X.pn++pins) (AI X.K C' i th D)) [] s σ H D (I0.wish _) h) (fun f s1 h1=>?_) fun e s1 h1=>?_)
 ·cases f with
  |next=>
   obtain⟨σ',H',J,q⟩:=h1;exact c_ ⟨σ',H',Wb J,q⟩
  |brk=>obtain⟨σ',H',J,q⟩:=h1;exact⟨σ',H',Wb J,q⟩
  |cont=>obtain⟨σ',H',J,q⟩:=h1;exact⟨σ',H',Wb J,q⟩
  |ret u=>obtain⟨v,σ',H',J,r,q⟩:=h1;exact⟨v,σ',H',Wb J,r,q⟩
 ·obtain⟨a,σ1,H1,ea,J,⟨C,d,He,fl⟩,a',Cx',d',fs,nm,bm,e1,xa,c,hc,q⟩:=h1;subst ea;cases e1;have hf:X.env.frame=some X.env.locals:=I.frame1 M';have VW:X.A.frames=some (X.env::X.outer):=by rw[ok.frames,M']
  have Y3:s1.heap.FunFrames X.base (X.env::X.outer):=by rw[<-M'];exact J.stack
  refine mV VW Y3 hf fl J.sz (fun b hb=>J.hok.fresh hb) J.pn_lt fun h2 T w x nT fT pT=>gv (s:={s1 with heap:=h2}) x fun h3 k x3=>?_;have W:=w.then k;rw[<-M']at W;have ec:=C1 xa J.hok (by obtain⟨vs,a0,z,_⟩:=fl;exact⟨vs,z⟩);obtain⟨rfl,rfl⟩:=ec;have J3:NX (X.bear (X.pn++pins)) [] σ1 H1 {s1 with heap:=h3}:=J.wr (h':=h3) W x3 He fT nT (fun p hp z=>pT (by rw[KB]at hp;exact z▸List.mem_map_of_mem hp));obtain⟨q0,N,bs,sn,Ui,ab,col,dd,k0,k1,k2,k3,k5,lk⟩:=c.obj;obtain⟨q0',N',bs',sn',XH,ab',XZ,V0,k0',k1',k2',k3',Ye,Yc⟩:=c'.obj;have hC:=J3.kIn _ _ lk;have Zh:=J3.kIn _ _ Yc;have J4:NX (X.suite (X.A.mark (some (.ref a))) (X.pn++pins)) [] σ1 H1 {s1 with heap:=h3}:=J3.alt (X:=X.bear (X.pn++pins)) ok.frames (fun z=>nomatch z) (fun p hp=>hp);refine wpAny_handleBy_cons (codeAny_handlers_test (fV (X:=X.suite (X.A.mark (some (.ref a))) (X.pn++pins)) J4 hg hm ?_ Ul)) (by intro z;cases z);obtain⟨vs3,a03,_,_,he3,_⟩:=id x3;refine AH he3 rfl hC Zh (c'.tl.has C' "BaseException" true zk) ?_;rw[hc];simp only[O_];refine codeAny_handlers_suite_as (gv (s:={s1 with heap:=h3}) x3 fun h5 Ye x5=>?_);have J5:NX (X.suite (X.A.mark (some (.ref a))) (X.pn++pins)) [] σ1 H1 {s1 with heap:=h5}:=by
   refine J4.wr (h':=h5) (e:=a) (T:=T) ⟨fun b o hb _ _ hT=>Ye b o hb hT,fun b o hb Zg=>⟨o.slots,Ye b o hb fun z=>W.nf (z▸Zg)⟩,fun o ho=>?_,W.nf⟩ x5 He fT nT (fun p hp z=>pT (by rw[KB]at hp;exact z▸List.mem_map_of_mem hp));obtain⟨_,_,oT,ts,_,_,_,_,hT,hd,_⟩:=x3;rw[hT]at ho;cases ho;exact⟨ts,hd⟩
  refine i3 (X:=X.suite (X.A.mark (some (.ref a))) (X.pn++pins)) (v:=.ref a) J5 hN hi (.inl hl) rfl (fun s6 J6=>?_) (.inr hl);refine m_ ((hs (X.A.mark (some (.ref a))) (X.pn++pins)) [] s6 _ H1 (D.drop i) J6 q) (fun f s7 h7=>?_) fun _ _ z=>False.elim z;have F':∀{σ':St}{H':Hp}{R:Unit->Tu->Prop},NX (X.suite (X.A.mark (some (.ref a))) (X.pn++pins)) [] σ' H' s7->(∀s8,NX X pins (σ'.set i none) H' s8->R () s8)->wpAny (model X.prog X.w) X.A (do bindName X.env n .none;unbindBehindTheSuite X.env n Uw) R X.xe s7:=fun{σ' H' R}J7 hR=>by
   obtain⟨m,hn,hlk⟩:=J7.loc;refine wpAny_nameGoes_keeps hl hn (by rw[ok.kind];rfl) fun h8 v hn8 hs8=>hR _ (Wb (J7.unset (t':=s7.toks+1) hN hi hn hlk hn8 hs8))
  cases f with
  |next=>obtain⟨σ',H',J7,q7⟩:=h7;exact F' J7 fun s8 J8=>⟨_,H',J8,q7⟩
  |brk=>obtain⟨σ',H',J7,q7⟩:=h7;exact F' J7 fun s8 J8=>⟨_,H',J8,q7⟩
  |cont=>obtain⟨σ',H',J7,q7⟩:=h7;exact F' J7 fun s8 J8=>⟨_,H',J8,q7⟩
  |ret u=>obtain⟨v,σ',H',J7,r,q7⟩:=h7;exact F' J7 fun s8 J8=>⟨v,_,H',J8,r,q7⟩
end
def trkL(H:Hp)(cs:List (Ts×Obj)):Hp:=fun b=>match cs.lookup b with|some o=>some (ip b o)|none=>H b
def untL(H:Hp)(cs:List (Ts×Obj)):Hp:=fun b=>match cs.lookup b with|some _=>none|none=>H b
def iu(H:Hp)(cs:List (Ts×Obj)):Prop:=∀b o,cs.lookup b=some o->H b=some (ip b o)
section
variable{H H1 H2:Hp}{cs:List (Ts×Obj)}{b:Ts}{o:Obj}{P:Tv}{w:Tw}{h h':Heap}{fs:List Ts}
def kY(e:cs.lookup b=some o):trkL H cs b=some (ip b o):=by unfold trkL;rw[e]
def bX(e:cs.lookup b=none):trkL H cs b=H b:=by unfold trkL;rw[e]
def eG(e:cs.lookup b=some o):untL H cs b=none:=by unfold untL;rw[e]
def bT(e:cs.lookup b=none):untL H cs b=H b:=by unfold untL;rw[e]
def uF:iu (trkL H cs) cs:=fun _ _ e=>kY e
variable{u:HO}
def j9(n:∀b o,cs.lookup b=some o->H b=none)(e:H b=some u):cs.lookup b=none:=by
 cases q:cs.lookup b with
 |none=>rfl
 |some o=>rw[n b o q]at e;cases e
def xw(n:∀b o,cs.lookup b=some o->H b=none):untL (trkL H cs) cs=H:=by
 funext b;cases e:cs.lookup b with
 |none=>rw[bT e,bX e]
 |some o=>rw[eG e,n b o e]
def cb(n:∀b o,cs.lookup b=some o->H b=none)(e:H b=some u):trkL H cs b=some u:=by rw[bX (j9 n e)];exact e
def AJ(f:iu H cs)(e:H b=some u)(ne:∀φ,u≠.ext φ):cs.lookup b=none:=by
 cases q:cs.lookup b with
 |none=>rfl
 |some o=>rw[f b o q]at e;exact absurd (Kw e).symm (ne _)
def Oo.trkL(ok:Oo P w H h)(g:∀b o,cs.lookup b=some o->h.get? b=some o)(n:∀b o,cs.lookup b=some o->H b=none):Oo P w (trkL H cs) h:=by
 intro a u e;cases q:cs.lookup a with
 |some o=>
  rw[kY q]at e;cases e;exact qj (g a o q)
 |none=>
  rw[bX q]at e;exact(ok a u e).stay (fun _ _ _ z=>z) (fun b z=>cb n z) fun b xs z=>cb n z
def Oo.untL(ok:Oo P w H h)(f:iu H cs):Oo P w (untL H cs) h:=by
 intro a u e;cases q:cs.lookup a with
 |some o=>rw[eG q]at e;cases e
 |none=>
  rw[bT q]at e;exact(ok a u e).stay (fun _ _ _ z=>z) (fun b z=>by rw[bT (AJ f z fun φ=>by nofun)];exact z) fun b xs z=>by rw[bT (AJ f z fun φ=>by nofun)];exact z
def gw(ok:Oo P w H h)(e:H b=some (ip b o)):h.get? b=some o:=(show N7 P w H h b (ip b o)from ok b _ e).1
def Un.trk(u:Un fs [] (trkL H cs) H2 h h')(ok:Oo P w H2 h')(f:iu H2 cs)(g:∀b o,cs.lookup b=some o->h.get? b=some o)(n:∀b o,cs.lookup b=some o->H b=none):Un fs [] H (untL H2 cs) h h' where
 keep:=fun b o e z hf hx=>by
  cases q:cs.lookup b with
  |some o'=>
   rw[g b o' q]at e;cases e;exact gw ok (f b _ q)
  |none=>exact u.keep b o e (by rw[bX q];exact z) hf hx
 slot:=fun b o e z hf hx=>by
  cases q:cs.lookup b with
  |some o'=>
   rw[g b o' q]at e;cases e;exact⟨_,gw ok (f b _ q)⟩
  |none=>exact u.slot b o e (by rw[bX q];exact z) hf hx
 free:=fun b o e z hx=>by
  cases q:cs.lookup b with
  |some o'=>exact eG q
  |none=>rw[bT q];exact u.free b o e (by rw[bX q];exact z) hx
 there:=u.there
 tups:=fun b xs e=>by rw[bT (j9 n e)];exact u.tups b xs (cb n e)
 frzs:=fun b o x e=>by rw[bT (j9 n e)];exact u.frzs b o x (cb n e)
 tbls:=fun b ps e=>by
  obtain⟨m,z⟩:=u.tbls b ps (cb n e);exact⟨m,by rw[bT (j9 n e)];exact z⟩
def Un.unt(u:Un fs [] (untL H cs) H2 h h')(f:iu H cs):Un fs [] H (trkL H2 cs) h h':=by
 have WT:∀{b:Ts},H b=none->cs.lookup b=none:=fun{b}z=>by
  cases q:cs.lookup b with
  |none=>rfl
  |some o=>rw[f b o q]at z;cases z
 refine⟨fun b o e z hf hx=>u.keep b o e (by rw[bT (WT z)];exact z) hf hx,fun b o e z hf hx=>u.slot b o e (by rw[bT (WT z)];exact z) hf hx,fun b o e z hx=>by rw[bX (WT z)];exact u.free b o e (by rw[bT (WT z)];exact z) hx,u.there,fun b xs e=>?_,fun b o x e=>?_,fun b ps e=>?_⟩
 ·have q:=AJ f e fun φ=>by nofun
  rw[bX q];exact u.tups b xs (by rw[bT q];exact e)
 ·have q:=AJ f e fun φ=>by nofun
  rw[bX q];exact u.frzs b o x (by rw[bT q];exact e)
 ·have q:=AJ f e fun φ=>by nofun
  obtain⟨m,z⟩:=u.tbls b ps (by rw[bT q];exact e);exact⟨m,by rw[bX q];exact z⟩
def Oo.retrk(ok2:Oo P w H2 h')(u:Un fs [] (L2.untL H cs) H2 h h')(ok:Oo P w H h)(f:iu H cs)(nf:∀b o,cs.lookup b=some o->b∉fs):Oo P w (L2.trkL H2 cs) h':=
 ok2.trkL (fun b o q=>u.keep b o (gw ok (f b o q)) (eG q) (nf b o q) (by simp)) fun b o q=>u.free b o (gw ok (f b o q)) (eG q) (by simp)
end
structure ik(X:Cx)(σ:St)(cs:List (Ts×Obj)):Prop where
 inj:∀x y d,X.env.cells.lookup x=some d->X.env.cells.lookup y=some d->x=y
 at_:∀x d,X.env.cells.lookup x=some d->∃o v,cs.lookup d=some o/\o.data=.cell v/\∀(i:Nat)(val:V),X.N[i]?=some x->σ[i]?=some (some val)->(X.env.kindOf x=some .cell\/X.env.kindOf x=some .free)->∃u,v=some u/\N3 val u
section
variable{d:Ts}{h:Heap}
def wk:∀{l:List (Str×Ts)},(∃x,(x,d)∈l)->∀o,h.get? d=some o->(l.filterMap fun p=>(h.get? p.2).map fun o=>(p.2,o)).lookup d=some o
 |[],⟨x,z⟩,_,_=>absurd z (by simp)
 |(y,c)::r,⟨x,z⟩,o,e=>by
  by_cases hc:d=c
  ·subst hc;rw[Le,e];simp
  ·have z':(x,d)∈r:=by
    rcases J0.mp z with q|q
    ·injection q with _ q2;exact absurd q2 hc
    ·exact q
   have ih:=wk (l:=r) ⟨x,z'⟩ o e;rw[Le];cases q:h.get? c with
   |none=>exact ih
   |some oc=>
    show List.lookup d ((c,oc)::_)=_;rw[K5,show(d==c)=false by simp[hc]];exact ih
def AK [BEq α] [LawfulBEq α]:∀{l:List (α×β)},l.lookup a=some b->(a,b)∈l
 |[],e=>by cases e
 |(c,d)::r,e=>by
  rw[K5]at e;split at e
  ·rename_i q;have:=eq_of_beq q;subst this;cases e;exact JW
  ·exact JZ _ (AK e)
def C3{o:Obj}{l:List (Str×Ts)}(e:(l.filterMap fun p=>(h.get? p.2).map fun o=>(p.2,o)).lookup d=some o):h.get? d=some o/\∃x,(x,d)∈l:=by
 have hm:=AK e;obtain⟨p,hp,q⟩:=List.mem_filterMap.mp hm;cases z:h.get? p.2 with
 |none=>rw[z]at q;cases q
 |some o'=>
  rw[z]at q;injection q with q;injection q with q1 q2;subst q1 q2;exact⟨z,p.1,hp⟩
section
variable{X:Cx}{pins:List (Ts×Obj)}{σ:St}{H:Hp}{s:Tu}{k:Nat}{f:Ts}{fd:TB}{ps:TH}{sp:Sp}{ds:List Tr}{dvs:TQ}{x:Str}{p pos:Pos}{e:Expr}{es:List Expr}{t:TA}
def C4{Q:VK}{us:List Tr}{vs:TQ}(F:NZ X.prog X.w X.K X.mg X.base bZ k f fd ps sp)(hr:N1 k X.A)(hb:Oa X.K fd ps [])(Xu:∀x,X.fn x=true)(L':∀p∈X.env.cells,X.env.cells.lookup p.1=some p.2)
  (I:NX X pins σ H s) (r:N2 vs us) (h:∀cs,ik X σ cs->(∀b o,cs.lookup b=some o->H b=none)->sp vs (trkL H cs) (fun v H2=>iu H2 cs/\Q v (untL H2 cs)) E0):wpAny (model X.prog X.w) X.A (call (.ref f) us) (EP X pins σ Q) X.xe s:=by
 let cs:=X.env.cells.filterMap fun p=>(s.heap.get? p.2).map fun o=>(p.2,o)
 have cell:∀b o,cs.lookup b=some o->s.heap.get? b=some o/\∃x,X.env.cells.lookup x=some b:=fun b o q=>by
  obtain⟨h1,x,hx⟩:=C3 q;exact⟨h1,x,L' _ hx⟩
 have n:∀b o,cs.lookup b=some o->H b=none:=fun b o q=>let⟨_,x,hx⟩:=cell b o q;I.freeC x b hx;have hC:ik X σ cs:=by
  refine⟨I.ok.inj,fun x d hx=>?_⟩;obtain⟨v,o,ho,hd⟩:=I.cell x d hx;refine⟨o,v,wk ⟨x,Lk hx⟩ o ho,hd,fun i val hi hv hk=>?_⟩;obtain⟨m,hn,hl⟩:=I.loc;obtain⟨u,ru,lk⟩:=hl i x val hi hv (hk.elim (fun z=>.inr (.inl z)) fun z=>.inr (.inr z));rcases lk with⟨z,_⟩|⟨_,c,hc,o',U4,Us⟩
  ·rcases hk with y|y<;>(rw[y]at z;cases z)
  ·rw[hx]at hc;cases hc;rw[ho]at U4;cases U4;rw[hd]at Us;injection Us with Us;exact⟨u,Us,ru⟩
 have hq:=h cs hC n;have hl:us.length=ps.length:=by rw[<-r.length];exact F.len _ _ _ _ hq
 have E:=I.env0;have big:∀b o,cs.lookup b=some o->X.s₀.heap.objs.size<=b:=fun b o q=>let⟨_,x,hx⟩:=cell b o q;I.ok.cab x b (Xu x) hx;have E':PN X.prog X.w X.K X.mg X.base X.A X.stack s (trkL H cs):=by
  refine⟨E.frames,E.mod,fun b o z=>⟨(E.bs b o z).1,?_⟩,E.bsz,E.funs,fun b Ub=>?_,E.hok.trkL (fun b o q=>(cell b o q).1) n,E.bare⟩
  ·cases q:cs.lookup b with
   |none=>rw[bX q];exact(E.bs b o z).2
   |some o'=>exact absurd (Kf (Ka z) (Kx I.ok.bsz (big b o' q))) (K4 _)
  ·cases q:cs.lookup b with
   |none=>rw[bX q];exact E.frf b Ub
   |some o'=>
    obtain⟨_,x,hx⟩:=cell b o' q;rcases J0.mp (I.stkSub b Ub)with z|z
    ·exact absurd z (I.cne x b hx)
    ·obtain⟨_,o'',ho,_⟩:=I.ok.funs.mem z;exact absurd (Kf (Ka ho) (big b o' q)) (K4 _)
 have Ub:=hb s us I.kIn (by rw[KB];exact hl);rw[KB]at Ub;refine J_ (C_ (F.run X.A X.stack s (trkL H cs) ⟨us,[]⟩ us vs _ E0 hr E' Ub r hq) fun r s' UQ=>?_);cases r with
 |error e=>exact False.elim UQ
 |ok fl=>
  cases fl with
  |ret u=>
   obtain⟨v,H2,os,bare,un,hok,rv,fx,q⟩:=UQ;exact I.after ⟨v,untL H2 cs,os,bare,un.trk hok fx (fun b o q=>(cell b o q).1) n,hok.untL fx,rv,q⟩
  |next=>exact False.elim UQ
  |brk=>exact False.elim UQ
  |cont=>exact False.elim UQ
def FA(X:Cx)(sp:Sp)(t:TA):TE:=fun σ H Q=>t σ H fun vs H1=>∀cs,ik X σ cs->(∀b o,cs.lookup b=some o->H1 b=none)->sp vs (trkL H1 cs) (fun v H2=>iu H2 cs/\Q v (untL H2 cs)) E0
def sh(F:NZ X.prog X.w X.K X.mg X.base bZ k f fd ps sp)(hr:N1 k X.A)(hg:Gl X x)(hm:X.mg x=some (.ref f))(hk:PySem.W.keepIn X.K (.ref f)=true)(hb:Oa X.K fd ps [])(Xu:∀x,X.fn x=true)(L':∀p∈X.env.cells,X.env.cells.lookup p.1=some p.2)
  (ha:PA X (e::es) t) (Ul:(x==("__debug__":Str))=false:=by decide) (he:starEach (e::es) X.env=(false,eval e X.env)::starEach es X.env:=by rfl) (TY:(backTo pos (starEach es X.env)).any (·.1)=false:=by rfl) :
  PE X (.Call (.Name x p) (e::es) [] pos) (FA X sp t):=by
 walk_at "p";refine s_ (fV I hg hm ?_ Ul);refine Lb (h₀:=X.base) I.ok.mod.kin hk (bH (ha pos pins s σ H _ I h) fun us s1⟨vs,H1,I1,r,q⟩=>⟨I1.kIn,?_⟩) he TY;exact C4 F hr hb Xu L' I1 r q
end
end
def FB(M':X.stack=X.env::X.outer)(VI:X.pn=[])(hex:X.ex=[])(e:Tr)(s':Tu)(h:j8 X (fun _=>E) e s'):
  wpAny (model X.prog X.w) X.A (leaving X.env e) (fun _ Ur=>kX X.prog X.w X.outer X.H₀ X.s₀ E e Ur) (fun e' Ur=>kX X.prog X.w X.outer X.H₀ X.s₀ E e' Ur) s':=by
 obtain⟨a,σ,H',he,I,⟨C,d,He,fl⟩,q⟩:=h;subst he;have VW:X.A.frames=some (X.env::X.outer):=by rw[I.ok.frames,M']
 have hl:s'.heap.FunFrames X.base (X.env::X.outer):=by rw[<-M'];exact I.stack
 unfold leaving;refine a_ (mV VW hl (I.frame1 M') fl I.sz (fun b hb=>I.hok.fresh hb) I.pn_lt fun h' T w x nT fT pT=>gv (s:={s' with heap:=h'}) x fun UT k x'=>?_);have W:=w.then k;rw[<-M']at W;have J:=I.wr (h':=UT) W x' He fT nT (fun p hp=>absurd hp (by rw[VI];simp));have B:=J.base;rw[hex]at B;exact⟨a,H',C,d,T,rfl,J.os,J.bare,B,J.hok,He,x',nT,fT,q⟩
def mW(sc:Scope)(ps fr:TH):Bool:=sc.kind==.function && !sc.isCoroutine && !sc.isGenerator&&decide (ps.length<=1)&&ps.all (fun x=>sc.names.lookup x==some .local)&&sc.names.all (fun p=>p.2 != .cell)&&fr.all (fun x=>sc.names.lookup x==some .free)
def sj(h:mW sc ps fr=true):sc.kind=.function/\sc.isCoroutine=false/\sc.isGenerator=false/\ps.length<=1/\(∀x∈ps,sc.names.lookup x=some .local)/\(∀p∈sc.names,p.2≠.cell)/\∀x∈fr,sc.names.lookup x=some .free:=by
 unfold mW at h;simp only[KQ,KC,Ro,bne_iff_ne,ne_eq,RH,t_]at h;obtain⟨⟨⟨⟨⟨⟨h1,h2⟩,h3⟩,h4⟩,h5⟩,h6⟩,h7⟩:=h;exact⟨h1,h2,h3,h4,h5,h6,h7⟩
structure sk(sc:Scope)(fr:TH)(cl:List (Str×Ts))(cs:List (Ts×Obj))(vC:TQ):Prop where
 inj:∀x y d,cl.lookup x=some d->cl.lookup y=some d->x=y
 has:∀x∈sc.names,x.2=.free->∃d,cl.lookup x.1=some d
 cel:∀x d,cl.lookup x=some d->∃o v,cs.lookup d=some o/\o.data=.cell v
 val:∀(j:Nat)(x:Str),fr[j]?=some x->∃d o u v,cl.lookup x=some d/\cs.lookup d=some o/\o.data=.cell (some u)/\vC[j]?=some v/\N3 v u
 len:vC.length=fr.length
def xy(L:we X H f qual params body sc)(CO:ik X σ cs)(hok:jA X.N X.env.scope sc ps fr ix=true)
  (hv:∀(j i:Nat),ix[j]?=some i->∃v,vC[j]?=some v/\σ[i]?=some (some v)) (hl:vC.length=fr.length) :
  ∃c pm ctv cl,H f=some (ip f (PySem.W.kla_obj "<lambda>" qual params body sc cl pm c ctv))/\H c=some (mS c qual)/\sk sc fr cl cs vC:=by
 obtain⟨c,pm,ctv,cl,hf,hc,e2,e3⟩:=L;obtain⟨k1,k2,k3,k4,k5,k6,k7,k8,k9⟩:=mU hok;refine⟨c,pm,ctv,cl,hf,hc,fun x y d a b=>CO.inj x y d (e2 x d a) (e2 y d b),fun x hx h=>e3 x hx h,fun x d q=>?_,fun j x a=>?_,hl⟩
 ·obtain⟨o,v,q1,q2,_⟩:=CO.at_ x d (e2 x d q);exact⟨o,v,q1,q2⟩
 ·obtain⟨i,hi,n1,n2⟩:=k9 j x a;obtain⟨d,hd⟩:=e3 (x,.free) (cy n2) rfl;obtain⟨o,v,q1,q2,q3⟩:=CO.at_ x d (e2 x d hd);obtain⟨val,h1,h2⟩:=hv j i hi;obtain⟨u,rfl,ru⟩:=q3 i val n1 h2 (k8 (x,.free) (cy n2) rfl);exact⟨d,o,u,val,hd,q1,q2,h1,ru⟩
def C5(P:Tv)(w:Tw)(K:ZF)(mg:Str->Option Tr)(base:Heap)(N:TH)(qual:Str)(sc:Scope)(f c:Ts)(cl:List (Str×Ts))(A:Tz)(outer:List Env)(s:Tu)(H:Hp)(E:XK):Cx where
 prog:=P
 w:=w
 K:=K
 mg:=mg
 base:=base
 A:=A.deeper (ql qual sc s.heap.objs.size f c cl)
 N:=N
 s₀:=s
 H₀:=H
 env:=ql qual sc s.heap.objs.size f c cl
 outer:=outer
 stack:=ql qual sc s.heap.objs.size f c cl::outer
 ex:=[]
 calm:=true
 fn:=fun _=>false
 pn:=[]
 xe:=fun e s'=>wpAny (model P w) (A.deeper (ql qual sc s.heap.objs.size f c cl)) (leaving (ql qual sc s.heap.objs.size f c cl) e) (fun _ Ur=>kX P w outer H s E e Ur) (fun e' Ur=>kX P w outer H s E e' Ur) s'
def HG(f c:Ts)(qual:Str)(params:Arguments)(body:Expr)(sc:Scope)(cl:List (Str×Ts))(pm ctv:Tr)(ps:TH)(cs:List (Ts×Obj))(vC:TQ)(te:XK->TE):Sp:=fun vs H Q E=>
 vs.length=ps.length/\H f=some (ip f (PySem.W.kla_obj "<lambda>" qual params body sc cl pm c ctv))/\H c=some (mS c qual)/\iu H cs/\te (fun e d H'=>(∀b o,cs.lookup b=some o->H' b=none)->E e d (trkL H' cs)) (vs.map some++vC.map some) (untL H cs) fun v H'=>(∀b o,cs.lookup b=some o->H' b=none)->Q v (trkL H' cs)
def FC{P:Tv}{w:Tw}{K:ZF}{mg:Str->Option Tr}{base:Heap}{k:Nat}{f c:Ts}{qual:Str}{params:Arguments}{body:Expr}{sc:Scope}{cl:List (Str×Ts)}{pm ctv:Tr}{ps fr:TH}{cs:List (Ts×Obj)}{vC:TQ}{te:XK->TE}
  (hok:mW sc ps fr=true) (LC:sk sc fr cl cs vC)
  (hb:∀(A:Tz)(outer:List Env)(s:Tu)(H:Hp)(E:XK),N1 k (A.deeper (ql qual sc s.heap.objs.size f c cl))->PE ((C5 P w K mg base (ps++fr) qual sc f c cl A outer s H E).esc fun _=>E) body (te E)) :
  NZ P w K mg base (kX P w) (k+1) f (PySem.W.kla_fn "<lambda>" qual params body sc cl pm (.ref c) ctv) ps (HG f c qual params body sc cl pm ctv ps cs vC te):=by
 refine⟨fun vs H Q E h=>h.1,fun A outer s H args us vs Q E hr e0 hbn rv UC=>?_⟩;obtain⟨hl,hf,hc,fx,h⟩:=UC;obtain⟨k1,k2,k3,k5,k6,k7,k8⟩:=sj hok;have of:s.heap.get? f=some (PySem.W.kla_obj "<lambda>" qual params body sc cl pm c ctv):=gw e0.hok hf;have oc:s.heap.CodeRec (.ref c) qual:=(e0.hok c _ hc).1;have lim:s.heap.NoLimit:=e0.mod.nolimit.keeps fun b o e=>(e0.bs b o e).1;have Wa:∀b o,cs.lookup b=some o->s.heap.get? b=some o:=fun b o q=>gw e0.hok (fx b o q);have hul:us.length=ps.length:=by rw[<-rv.length];exact hl
 refine PySem.W.kla_callFunE hr.depth of rfl k2 k3 rfl oc (hbn _ _ _ _ ?_);refine wpAny_newFunctionEnv k7 (fun y hy=>k6 y.1 (LM hy).1) (fun h₁ WX Yh=>⟨lim.fresh _ Yh,?_⟩) k1;show codeAny _ _ (.expr body (ql qual sc s.heap.objs.size f c cl)) _ _;have old:∀b o,s.heap.get? b=some o->h₁.get? b=some o:=fun b o e=>Yh.extBut b o (Kq (Ka e)) (JQ _ e);have ZD:Oo P w (untL H cs) s.heap:=e0.hok.untL fx;have HL:untL H cs s.heap.objs.size=none:=ZD.fresh (J2 _);have nf:∀b o,cs.lookup b=some o->b∉ny outer:=fun b o q z=>by
  have:=e0.frf b z;rw[fx b o q]at this;cases this
 have U9:∀b,H b=none->untL H cs b=none:=fun b z=>by
  cases q:cs.lookup b with
  |none=>rw[bT q];exact z
  |some o=>exact eG q
 let E':XK:=fun e d H'=>(∀b o,cs.lookup b=some o->H' b=none)->E e d (trkL H' cs)
 let Y:=C5 P w K mg base (ps++fr) qual sc f c cl A outer s (untL H cs) E'
 have WU:∀b:Ts,b∉Y.ex:=fun b z=>absurd (show b∈([]:List Ts)from z) (by simp);have I4:NX Y [] (vs.map some++vC.map some) (untL H cs) {s with heap:=h₁,toks:=s.toks+(ps.zip us).length}:=by
  refine⟨⟨e0.mod,k1,rfl,rfl,J2 _,fun x y d a b=>LC.inj x y d a b,fun x hx=>?_,fun x d z=>(by cases z),fun _=>hr.hd,Around.frames_deeper e0.frames,.inr ⟨rfl,rfl⟩,fun b z=>absurd z (WU b),fun b o z=>⟨(e0.bs b o z).1,U9 b (e0.bs b o z).2⟩,e0.bsz,fun b _ _=>WU b,fun b z=>absurd z (WU b),e0.funs,fun b z=>U9 b (e0.frf b z)⟩,
   rfl,e0.bare,Un.kept old,⟨_,WX,fun j x v a b d=>?_⟩,fun x d q=>?_,HL,fun x d q=>?_,fun p hp=>(by cases hp),ZD.kept old,?_⟩
  ·have Uk:sc.names.lookup x=some .cell\/sc.names.lookup x=some .free:=hx;rcases Uk with z|z
   ·exact absurd rfl (k7 _ (cy z))
   ·exact LC.has (x,.free) (cy z) rfl
  ·have a':(ps++fr)[j]?=some x:=a;have b':(vs.map some++vC.map some)[j]?=some (some v):=b;by_cases hj:j<ps.length
   ·rw[Lh hj]at a';rw[Lh (by rw[JY];lia),Kl]at b';have hj0:j=0:=by lia
    subst hj0;obtain⟨u',r0,lk0⟩:=AD k5 hl rv a' (by simpa using b');exact⟨u',r0,.inl ⟨k6 x (Kg a'),lk0⟩⟩
   ·rw[Ld zo]at a';rw[Ld (by rw[JY];lia),JY,hl,Kl]at b';obtain⟨d0,o,u,v',c1,c2,c3,c4,c5⟩:=LC.val _ x a';rw[c4]at b';have ev:v'=v:=by simpa using b'
    subst ev;exact⟨u,c5,.inr ⟨.inr (k8 x (Kg a')),d0,c1,o,old _ _ (Wa _ _ c2),c3⟩⟩
  ·obtain⟨o,v,q1,q2⟩:=LC.cel x d q;exact⟨v,o,old _ _ (Wa _ _ q1),q2⟩
  ·obtain⟨o,v,q1,q2⟩:=LC.cel x d q;exact eG q1
  ·show(vs.map some++vC.map some).length=(ps++fr).length;rw[JU,JU,JY,JY,hl,LC.len]
 refine PySem.W.kla_codeExpr (m_ ((hb A outer s (untL H cs) E' (hr.deeper _)) [] _ _ (untL H cs) (fun v H'=>(∀b o,cs.lookup b=some o->H' b=none)->Q v (trkL H' cs)) (I4.wish _) h) (fun u s' he=>?_) fun e s' he=>?_)
 ·obtain⟨v,H',J,r,q⟩:=he;have B:=J.base;exact⟨v,trkL H' cs,J.os,J.bare,Un.unt J.base fx,Oo.retrk J.hok J.base e0.hok fx nf,r,q fun b o z=>Un.free B b o (Wa b o z) (eG z) (WU b)⟩
 ·have conv:∀e Ur,kX P w outer (untL H cs) s E' e Ur->kX P w outer H s E e Ur:=fun e Ur⟨a,H',C,d,T,h1,os,bare,un,Ya,He,x,nT,fT,q⟩=>by
   have nn:∀b o,cs.lookup b=some o->H' b=none:=fun b o z=>un.free b o (Wa b o z) (eG z) (by simp);refine⟨a,trkL H' cs,C,d,T,h1,os,bare,un.unt fx,Oo.retrk Ya un e0.hok fx nf,cb nn He,x,nT,?_,q nn⟩;cases z:cs.lookup T with
   |none=>rw[bX z];exact fT
   |some o=>exact absurd (Kf (Ka (Wa T o z)) nT) (K4 _)
  exact m_ (FB (X:=Y) rfl rfl rfl e s' he) (fun _ Ur z=>conv e Ur z) fun e' Ur z=>conv e' Ur z
section
def C6(P:Tv)(w:Tw)(K:ZF)(mg:Str->Option Tr)(base:Heap)(A:Tz)(i:Nat)(ES:St->XK)(t:TA):TE:=fun σ H Q=>∃f,σ[i]?=some (some (.ref f))/\t σ H fun vs H1=>∃o fd k ps sp,H1 f=some (ip f o)/\o.data=.func fd/\NZ P w K mg base (kX P w) k f fd ps sp/\N1 k A/\Oa K fd ps []/\sp vs H1 Q (ES σ)
def AL(h:Heap)(q:∃o fd,h.get? f=some o/\o.data=.func fd):∃k,(k=Keeper.frame\/k=Keeper.machine\/k=Keeper.boundFrame)/\PySem.W.Looks M h (keeperOf (.ref f)) k:=by
 obtain⟨o,fd,ho,hd⟩:=q;obtain⟨c,d,dt,sl⟩:=o;cases hd;exact⟨.frame,.inl rfl,(PySem.W.Looks.ld (part:=none) ho).andThen .now⟩
def xz(P:Tv)(w:Tw)(K:ZF)(mg:Str->Option Tr)(base:Heap)(hr0:N1 k0 A0)(hN:X.N[i]?=some x)(hv:FZ X.env.scope x)(hx:HE X ES)(ha:PA X (e::es) t)(Ul:(x==("__debug__":Str))=false:=by decide)(Ug:(x==("__classdict__":Str))=false:=by decide)
  (he:starEach (e::es) X.env=(false,eval e X.env)::starEach es X.env:=by rfl) (TY:(backTo pos (starEach es X.env)).any (·.1)=false:=by rfl) (e1:X.prog=P:=by rfl) (e2:X.w=w:=by rfl) (e3:X.K=K:=by rfl) (e4:X.mg=mg:=by rfl) (e5:X.base=base:=by rfl) (e6:X.A=A0:=by rfl):PE X (.Call (.Name x p) (e::es) [] pos) (C6 P w K mg base A0 i ES t):=by
 subst e1 e2 e3 e4 e5 e6;refine⟨fun pins s σ H Q I h=>?_⟩;obtain⟨f,hf,h⟩:=h;refine s_ (bH ((xG hN hv Ul Ug).run pins s σ H (fun v H1=>v=.ref f/\H1=H) I ⟨_,hf,rfl,rfl⟩) fun u s1 hZZ=>?_);obtain⟨xx,H1,I1,rx,ex,eh⟩:=hZZ;subst ex eh;obtain rfl:u=Value.ref f:=rx;have key:=ha pos pins s1 σ H1 _ I1 h;rw[he]at key⊢;refine PySem.W.callWith_of (first:=[]) (P:=fun h=>∃o fd,h.get? f=some o/\o.data=.func fd) (by show((false||(backTo pos (starEach es X.env)).any (·.1))||false)=false;rw[TY];rfl) AL (PySem.Calls.evalArgs_plain ?_);refine bH key fun us s2⟨vs,H2,I2,r,o,fd,k,ps,sp,hf2,hd,F,hr,hb,q⟩=>⟨⟨o,fd,gw I2.hok hf2,hd⟩,?_⟩;exact wf (us:=us) (vs:=vs) (ds:=[]) (dvs:=[]) F hr hb .nil hx I2 r (by rw[KB];exact q)
end
def FE{P:Tv}{w:Tw}{K:ZF}{mg:Str->Option Tr}{base:Heap}{X:Cx}{k:Nat}{H:Hp}{σ:St}{cs:List (Ts×Obj)}{f:Ts}{qual:Str}{params:Arguments}{body:Expr}{sc:Scope}{ps fr:TH}{ix:TJ}{vC:TQ}{te:XK->TE}
  (L:we X H f qual params body sc) (CO:ik X σ cs) (n:∀b o,cs.lookup b=some o->H b=none) (hok:jA X.N X.env.scope sc ps fr ix=true) (XQ:mW sc ps fr=true) (hv:∀(j i:Nat),ix[j]?=some i->∃v,vC[j]?=some v/\σ[i]?=some (some v)) (hl:vC.length=fr.length)
  (U0:∀(cl:List (Str×Ts))(pm cd ct:Tr)(us:List Tr),us.length=ps.length->bindArgs (PySem.W.kla_fn "<lambda>" qual params body sc cl pm cd ct) ⟨us,[]⟩=pure (ps.zip us))
  (hb:∀(c:Ts)(cl:List (Str×Ts))(A:Tz)(outer:List Env)(s:Tu)(H:Hp)(E:XK),N1 k (A.deeper (ql qual sc s.heap.objs.size f c cl))->PE ((C5 P w K mg base (ps++fr) qual sc f c cl A outer s H E).esc fun _=>E) body (te E)) :
  ∃o fd sp,trkL H cs f=some (ip f o)/\o.data=.func fd/\NZ P w K mg base (kX P w) (k+1) f fd ps sp/\Oa K fd ps []/\∀vs Q E,vs.length=ps.length->
   te (fun e d H'=>(∀b o,cs.lookup b=some o->H' b=none)->E e d (trkL H' cs)) (vs.map some++vC.map some) H (fun v H'=>(∀b o,cs.lookup b=some o->H' b=none)->Q v (trkL H' cs))->sp vs (trkL H cs) Q E:=by
 obtain⟨c,pm,ctv,cl,hf,hc,LC⟩:=xy L CO hok hv hl;refine⟨_,_,_,cb n hf,rfl,FC (pm:=pm) (ctv:=ctv) (params:=params) (qual:=qual) (c:=c) (te:=te) XQ LC (hb c cl),.all (fun us h=>U0 cl pm (.ref c) ctv us h),fun vs Q E LS h=>⟨LS,cb n hf,cb n hc,uF,?_⟩⟩;rw[xw n];exact h
end L2
namespace XD
open PySem PySem.SeqAt PySem.MeetsSeq
def OL(l:Ts)(es:Array DictEntry)(ep:Nat)(dd:Option Ts)(sl:Array (Option Tr))(b:Str)(u:Tok):
  Meets (Builtin.«dict.__eq__» ⟨[.ref l,.str b u],[]⟩) (fun _ R s=>s.heap.get? l=some {cls:=.type "dict",dict:=dd,data:=.dict es ep,slots:=sl}/\R (.ok (.ret .notImplemented)) s):=
 .of_wp fun prog w A R s h=>by
  obtain⟨hl,h⟩:=h;have ht:s.TypeIs (.ref l) "dict":=⟨_,hl,rfl⟩;show wpAny _ _ (Builtin.Dict.dictSlotArgs "__eq__" ⟨[.ref l,.str b u],[]⟩>>=_) _ _ s;refine a_ ?_;unfold Builtin.Dict.dictSlotArgs;refine a_ (wpAny_notOrdered_dict ht ?_);refine c_ ?_;refine a_ (wpAny_isInstance (T:="str") (Rl s b u) (by rfl:isSubtype (.type "str") (.type "dict")=pure false) ?_);simp only[Bool.not_false,O_];exact a_ (wpAny_rule (c_ ⟨_,rfl,h⟩))
def OM(b:Str)(u:Tok)(l:Ts)(c:Tr)(es:Array DictEntry)(ep:Nat)(dd:Option Ts)(sl:Array (Option Tr)):
  Meets (Builtin.«str.__eq__» ⟨[.str b u,.ref l],[]⟩) (fun _ R s=>s.heap.get? l=some {cls:=c,dict:=dd,data:=.dict es ep,slots:=sl}/\R (.ok (.ret .notImplemented)) s):=
 .of_wp fun prog w A R s h=>by obtain⟨hp,g,d,tk,os⟩:=s;obtain⟨hl,h⟩:=h;wp_walk using AutoSeq1.wpAny_loadPart' hl,wpAny_load hl;exact⟨_,rfl,h⟩
def Pz(b:Str)(u:Tok)(ho:s.heap.get? l=some {cls:=.type "dict",dict:=dd,data:=.dict es ep,slots:=sl})(hu:A.units<cLine):RcAt A s (.str b u) (.ref l) false:=fun prog w E Q h=>
 rc_eq_decline_or (k:=false) (Rl s b u) ⟨_,ho,rfl⟩ zd (by rfl:isSubtype (.type "dict") (.type "str")=pure false) F.slot_str_eq F.slot_dict_eq_refl
  (fun _ hq=>call_meets F.slot_str_eq (Rl s b u) F.entry_str_eq (F.args_str_eq_2 _ _) (OM b u l (.type "dict") es ep dd sl) ⟨ho,hq⟩)
  (fun _ hq=>call_meets F.slot_dict_eq_refl ⟨_,ho,rfl⟩ F.entry_dict_eq (F.args_dict_eq_2 _ _) (OL l es ep dd sl b u) ⟨ho,hq⟩)
  (fun _ hq=>wpAny_of_eq (rfl:isSame (.str b u) (.ref l)=pure false) hq) (.inr hu) h
def eq_str_dict(b:Str)(u:Tok)(ho:s.heap.get? l=some {cls:=.type "dict",dict:=dd,data:=.dict es ep,slots:=sl})(hu:A.units<cLine):EqAt A s (.str b u) (.ref l) false:=fun prog w E Q h=>by
 unfold eqBool;refine q_ ?_;refine wpAny_ite_split (fun hab=>absurd (eq_of_beq hab) nofun) (fun _=>?_);exact a_ (Pz b u ho hu prog w E _ (o_ h))
end XD
namespace L2
open PySem PySem.Spec PyProof.Rows
def wl(K:ZF)(H:Hp)(a:Ts):Prop:=(∃xs,N0 K H a xs)\/(∃xs,NY K H a xs)\/∃kvs,H a=some (.dK kvs)
section
def sr(I:NX X pins σ H s)(t:wl X.K H a)(hu:A.units<cLine)(b:Str)(u:Tok):SeqAt.EqAt A s (.str b u) (.ref a) false:=by
 rcases t with⟨xs,t⟩|⟨xs,t⟩|⟨kvs,t⟩
 ·obtain⟨f',_,pl,_⟩:=I.list t;exact SeqAt.EqAt.str_list b u pl.isList hu
 ·obtain⟨f',_,pl,_⟩:=I.tuple t;exact SeqAt.EqAt.str_tuple b u pl hu
 ·obtain⟨_,_,vs,_,o,es,ep,ho,hx,hd,_⟩:=(show N7 X.prog X.w H s.heap a (.dK kvs)from I.hok a _ t);obtain⟨c,dd,dt,sl⟩:=o;cases hd;have hc:c=.type "dict":=hx.1;subst hc;exact XD.eq_str_dict b u ho hu
def mX(h:∀b u,SeqAt.EqAt A s (.str b u) (.ref a) false):∀{xs:TH}{us:List Tr},N2 (xs.map V.str) us->∀u∈us,SeqAt.EqAt A s u (.ref a) ((fun _=>false) u)
 |[],_,.nil=>fun u hu=>by cases hu
 |x::xs,u::us,.cons r t=>fun u' hu=>by
  rcases J0.mp hu with rfl|hu
  ·obtain⟨t',rfl⟩:=r;exact h x t'
  ·exact mX h t u' hu
def AM{l:List Tr}:l.toArray.any (fun _=>false)=false:=by
 rw[Array.any_eq_false];intro i h;exact Kh
def wm(K:ZF):R2:=fun x y H Q=>∃(a p:Ts)(xs:TH),x=.ref a/\y=.ref p/\wl K H a/\(N0 K H p (xs.map V.str)\/NY K H p (xs.map V.str))/\Q (.bl true) H
def oE(hr:N1 k X.A):fv X (compareOp .NotIn) (wm X.K):=by
 walk_at "t";obtain⟨a,p,xs,rfl,rfl,t,hq,q⟩:=h;cases rx;cases ry;have hu:X.A.in1.units<cLine:=by
  have:=hr.un;show X.A.units+1<_;lia
 have ne:=sr I t hu;rcases hq with hq|hq
 ·obtain⟨f',r,pl,hz⟩:=I.list hq;refine SeqAt.notIn_listAt (fun _=>false) pl.isList (fun w hw=>mX ne r w (by simpa using hw)) ⟨.bl _,H,I,rfl,?_⟩;rw[AM];exact q
 ·obtain⟨f',r,pl,hz⟩:=I.tuple hq;refine SeqAt.notIn_tupleAt (fun _=>false) pl (fun w hw=>mX ne r w (by simpa using hw)) ⟨.bl _,H,I,rfl,?_⟩;rw[AM];exact q
def oF [DecidableEq κ]:∀{ka:List (κ×Tr)},(∀k v,(k,v)∈ka->valueAt kb k=some v)->PySem.W.KeqHits A s kb ka true
 |[],_=>.nil
 |(k,v)::r,h=>by
  have:=PySem.W.KeqHits.hit (e:=true) (b:=true) (h k v JW) (SeqAt.EqAt.same v) (oF (A:=A) (s:=s) (ka:=r) fun k v m=>h k v (JZ _ m));exact this
def wn(K:ZF):R2:=fun x y H Q=>y=x/\((∃d,Dt K H x d/\d.canLay0=true/\d.depth<=60/\PyData.eqv d d=true)\/∃a kvs,x=.ref a/\H a=some (.dK kvs))/\Q (.bl true) H
def xA(hr:N1 k X.A):fv X (compareOp .Eq) (wn X.K):=by
 walk_at "t";obtain⟨rfl,h,q⟩:=h;rcases h with⟨d,h1,h2,h3,h4⟩|⟨a,kvs,rfl,h1⟩
 ·refine Qx hr pins s σ H y y v u Q I rx ry ⟨d,d,h1,h1,h2,h2,Kx (Nat.min_le_left _ _) h3,?_⟩;rw[h4];exact q
 ·cases rx;cases ry;obtain⟨_,hm,vs,_,D⟩:=(show N7 X.prog X.w H s.heap a (.dK kvs)from I.hok a _ h1);have nd:(vs.map (·.1)).Nodup:=by obtain⟨_,_,_,_,_,_,_,_,z⟩:=id D;exact z
  have hu:X.A.units<cLine:=by
   have:=hr.un;lia
  refine PySem.W.keq_eq (r:=true) hm hm D D hu (fun _=>oF fun k v m=>?_) ⟨.bl _,H,I,rfl,?_⟩
  ·obtain⟨i,hi,e⟩:=List.mem_iff_getElem.mp m;exact valueAt_of_get nd (i:=i) (by rw[J1 hi,e])
  ·simpa using q
end
end L2
namespace L2
def Jx(r1 r2:R2):R2:=fun x y H Q=>r1 x y H Q\/r2 x y H Q
def kc(a:fv X f r1)(b:fv X f r2):fv X f (Jx r1 r2):=by
 walk_at "t";rcases h with h|h
 ·exact a pins s σ H x y v u Q I rx ry h
 ·exact b pins s σ H x y v u Q I rx ry h
end L2
namespace L3
open PySem L2
abbrev qm:Stmt:=cJ (top 1) 0
abbrev qo:Stmt:=cJ (top 6) 0
abbrev nr(R:Ts):List Tr:=.ref R::XB.bmV
structure Xs(K:ZF)(mg:Str->Option Tr)(R fR cK fK cT cN:Ts):Prop where
 r:XC K R "RowsError" XB.bmV
 k:XC K cK "NoKind" (nr R)
 t:XC K cT "NoText" (nr R)
 n:XC K cN "NoName" (nr R)
 na:Oe K cK "name"
 mkx:Jk K cK fK
 ri:DL K R "__init__" fR
 mR:mg "RowsError"=some (.ref R)
 mK:mg "NoKind"=some (.ref cK)
 mT:mg "NoText"=some (.ref cT)
 mN:mg "NoName"=some (.ref cN)
 val:mg "ValueError"=none
inductive HY(K:ZF)(vs:TQ)(H:Hp)(Q:VK)(Z3:XK):Prop
 |mk(e x C d r fs nm bm:_):vs=[.ref e,x]->O3 H e C d r fs->XC K C nm bm->Q .non H->HY K vs H Q Z3
inductive C7(C:Ts)(vs:TQ)(H:Hp)(Q:VK)(Z3:XK):Prop
 |mk(e x:_):vs=[.ref e,x]->O3 H e C none false []->(∀H' d,O3 H' e C (some d) false [("name",x)]->(∀b o,H b=some o->b≠e->H' b=some o)->Q .non H')->C7 C vs H Q Z3
section
def Jn:av [R8,SQ] [R8,SQ] (ak qm):=cV zk
def HH(F:Ob K "__init__" "RowsError.__init__" qm f fd)(T:Xs K mg R fR cK fK cT cN):NZ P w K mg base bZ 1 f fd [R8,SQ] (HY K):=by
 have ZZ:=Jn
 walk_at "o"
 ·obtain⟨e,x,C,d,r,fs,nm,bm,rfl,xa,c,q⟩:=h;refine⟨_,aj (aM (C0 rfl T.val (aa (pv 0) (aa (pv 1) ac)))),?_⟩;exact⟨_,rfl,_,rfl,e,[x],C,d,r,fs,nm,bm,rfl,(by show 1<=1000;decide),xa,c,q⟩
inductive HZ(P:Tv)(w:Tw)(K:ZF)(mg:Str->Option Tr)(base:Heap)(fR:Ts):Prop
 |mk(fd:_):Oa K fd [R8,SQ] []->NZ P w K mg base bZ 1 fR fd [R8,SQ] (HY K)->HZ P w K mg base fR
def FG(h:HZ X.prog X.w X.K X.mg X.base fR)(T:Xs X.K X.mg R fR cK fK cT cN)(hr:N1 1 X.A)(hg:Gl X "RowsError")(ha:PA X (e::es) t)
  (M':starEach (e::es) X.env=(false,eval e X.env)::starEach es X.env:=by rfl) (TY:(backTo pos (starEach es X.env)).any (·.1)=false:=by rfl) (pl:Sem Bool)
  (ht:eval (.Call (.Attribute (.Name "RowsError" p) "__init__" B') (e::es) [] pos) X.env=(do
   let ov <-eval (.Name "RowsError" p) X.env
   standAt B'.atName
   let(f,first) <-holding [ov] (getMethod ov "__init__" pl)
   callWith pos f first (backTo pos (starEach (e::es) X.env)) (backToKw pos (keywordEach [] X.env)))) :
  PE X (.Call (.Attribute (.Name "RowsError" p) "__init__" B') (e::es) [] pos) (uT (HY X.K) [] E0 t):=by
 obtain⟨fd,hb,F⟩:=h;exact Az (pl:=pl) T.ri F hr hg T.mR hb iq ha zd M' TY ht
def Jo:av [R8,"name"] [R8,"name"] (ak qo):=cV zk
def HI(F:Ob K "__init__" "NoKind.__init__" qo f fd)(T:Xs K mg R fR cK fK cT cN)(RI':HZ P w K mg base fR):NZ P w K mg base bZ 2 f fd [R8,"name"] (C7 cK):=by
 have ZZ:=Jo
 walk_at "o"
 ·obtain⟨e,x,rfl,xa,q⟩:=h;refine⟨_,af (aM (FG RI' T hr rfl (aa (pv 0) (aa ai ac)) rfl rfl _ rfl)) (aj (CZ (pv 0) (pv 1))),?_⟩;refine⟨_,rfl,e,_,cK,none,false,[],"NoKind",nr R,rfl,xa,T.k,?_⟩;refine⟨_,rfl,_,rfl,e,cK,none,false,[],"NoKind",nr R,rfl,xa,T.k,T.na,(by show 0<1000;decide),fun H3 d' xs=>?_⟩;exact q H3 d' xs.at_ fun b o hb ne=>xs.keep b o hb ne (fun z=>nomatch z)
def Pl(K:ZF)(H:Hp)(D:Fm)(z:V):Prop:=(dZ z=true/\ky z (al (D.kinds.map Kn.name))=false)\/∃a,z=.ref a/\wl K H a
def mY(cK:Ts)(z:V)(H:Hp)(E:XK):Prop:=∀e d H',NV H H'->H e=none->O3 H' e cK (some d) true [("name",z)]->E (.ref e) none H'
inductive jC(K:ZF)(C:Ts)(cK:Ts)(vs:TQ)(H:Hp)(Q:VK)(E:XK):Prop
 |mk(v D z:_):vs=[v,z]->Oq C H v D->((∃(x:Str)(j:Nat),z=.str x/\(D.kinds.map Kn.name)[j]?=some x/\(∀m,m<j->(D.kinds.map Kn.name)[m]?≠some x)/\Q (.int j) H)\/(Pl K H D z/\mY cK z H E))->jC K C cK vs H Q E
def AO(F:Ob K "kind_at" "Table.kind_at" pO f fd)(T:Tc K C)(TX:Xs K mg R fR cK fK cT cN)(FK:NZ P w K mg base bZ 2 fK fdK [R8,"name"] (C7 cK))(BK:Oa K fdK [R8,"name"] []):
  NZ P w K mg base (kX P w) 4 f fd [R8,So] (jC K C cK):=by
 refine F.okX zr (fun vs H Q E h=>?_) (fun Mb A outer s H vs Q E hr h=>?_)
 ·obtain⟨v,D,z,rfl,_⟩:=h;rfl
 ·obtain⟨v,D,z,rfl,⟨a,dx,pp,pm,pn,pk,us,rfl,ho,VH,Wl,VI,Ws,L9⟩,h⟩:=h;have Uu:N1 3 _:=hr;refine⟨_,af (aQ (ap (kc eo (oE hr)) (pv 1) (bS (pv 0) rfl) rfl) (aj (AG (Ay TX.k TX.mkx FK Uu rfl TX.mK BK iq zd (aa (pv 1) ac)) fS rfl)) aB)
   (aj (aq (EW PySem.F.plainAttrs_tuple PySem.F.slot_tuple_index PySem.F.type_tuple_index rH (bS (pv 0) rfl) (aa (pv 1) ac)))),?_⟩
  refine⟨_,rfl,_,rfl,a,C,dx,_,_,rfl,ho,T.cl,T.na SC zk,rfl,?_⟩;rcases h with⟨x,j,rfl,hj,hf,q⟩|⟨nk,q⟩
  ·have hz:x∈D.kinds.map Kn.name:=Kg hj;refine .inl ⟨pn,_,rfl,.inr (NY.of VI),rfl,dm _,_,rfl,be ?_ ?_⟩
   ·show(!ky (.str x) (al (D.kinds.map Kn.name)))=false;rw[dR,KM.mpr hz];rfl
   ·exact⟨_,rfl,a,C,dx,_,_,rfl,ho,T.cl,T.na SC zk,rfl,pn,_,rfl,VI,_,rfl,pn,_,x,j,rfl,rfl,NY.of VI,hj,hf,q⟩
  ·have rs:AF K (Ax cK (C7 cK) E0 (uR (lA 1) yc)) (fun _=>E) {nx:=fun _ H'=>Q .non H',rt:=Q} (start [R8,So] [.ref a,z]) H:=by
    refine⟨_,rfl,fun e he=>⟨e,z,rfl,⟨ae,by show 0<=1000;decide,rfl⟩,fun H2 d xa k=>⟨rfl,e,cK,some d,_,"NoKind",nr R,rfl,xa,TX.k,?_⟩⟩⟩;obtain⟨x1,x2,x3,x4⟩:=xa;refine q e d _ (fun b o hb=>?_) he ⟨ae,x2,x3,by rw[am x3];exact x4⟩;have ne:b≠e:=az hb he;rw[am ne];exact k b o (by rw[am ne];exact hb) ne
   rcases nk with⟨fl,hi⟩|⟨b,rfl,rt⟩
   ·exact .inl ⟨pn,_,rfl,.inr (NY.of VI),fl,dm _,_,rfl,bD (by show(!ky z (al (D.kinds.map Kn.name)))=true;rw[hi];rfl) rs⟩
   ·exact .inr ⟨b,pn,D.kinds.map Kn.name,rfl,rfl,rt,.inr (NY.of VI),_,rfl,bD rfl rs⟩
inductive qp(P:Tv)(w:Tw)(K:ZF)(mg:Str->Option Tr)(base:Heap)(C:Ts)(nm:Str)(n:Nat)(ps:TH)(sp:Sp):Prop
 |mk(f fd:_):qG K C nm f->NZ P w K mg base (kX P w) n f fd ps sp->Oa K fd ps []->qp P w K mg base C nm n ps sp
inductive kZ(K:ZF)(C:Ts)(cK:Ts)(vs:TQ)(H:Hp)(Q:VK)(E:XK):Prop
 |mk(v D z:_):vs=[v,z]->Oq C H v D->((∃x:Kn,z=.str x.name/\wY D/\x∈D.kinds/\∀b,Pp H x.dd b->Q b H)\/(Pl K H D z/\mY cK z H E))->kZ K C cK vs H Q E
inductive wo(K:ZF)(C:Ts)(cK:Ts)(vs:TQ)(H:Hp)(Q:VK)(E:XK):Prop
 |mk(v D z:_):vs=[v,z]->Oq C H v D->((∃x:Kn,z=.str x.name/\wY D/\x∈D.kinds/\∀tf us,H tf=some (.tup us)->Paired (Oh H) us x.fs->Q (.ref tf) H)\/(Pl K H D z/\mY cK z H E))->wo K C cK vs H Q E
def AQ(F:Ob K "deed" "Table.deed" zn f fd)(T:Tc K C)(KA:qp P w K mg base C "kind_at" 4 [R8,So] (jC K C cK)):NZ P w K mg base (kX P w) 5 f fd [R8,So] (kZ K C cK):=by
 refine F.okX EZ (fun vs H Q E h=>?_) (fun Mb A outer s H vs Q E hr h=>?_)
 ·obtain⟨v,D,z,rfl,_⟩:=h;rfl
 ·obtain⟨v,D,z,rfl,hT,h⟩:=h;obtain⟨a,dx,pp,pm,pn,pk,us,rfl,ho,VH,Wl,VI,Ws,L9⟩:=id hT;have VS:N1 4 _:=hr;obtain⟨f1,LW,M1,F1,B1⟩:=KA;refine⟨_,aj (aq (ax aJ (ax aJ (bS (pv 0) rfl) (jB (pv 0) T.cl M1 F1 VS B1 .nil fS (aa (pv 1) ac))) ah)),?_⟩;refine⟨_,rfl,a,C,dx,_,_,rfl,ho,T.cl,T.na Ss zk,rfl,_,rfl,a,dx,_,rfl,ho,rfl,_,rfl,_,D,z,rfl,hT,?_⟩;rcases h with⟨x,rfl,hD,hx,q⟩|⟨nk,q⟩
  ·obtain⟨j,hj⟩:=zq hx;obtain⟨u,hu,p,tf,b,fu,rfl,hp,YX,U8,hb⟩:=rM L9 hj;have Y6:(D.kinds.map Kn.name)[j]?=some x.name:=by rw[Kl,hj];rfl
   exact .inl ⟨x.name,j,rfl,Y6,rL hD.kn Y6,pk,us,_,_,rfl,rfl,NY.of Ws,aU hu,p,_,_,_,rfl,rfl,NY.of hp,jU,q b hb⟩
  ·exact .inr ⟨nk,q⟩
def FH(F:Ob K "fields_of" "Table.fields_of" jY f fd)(T:Tc K C)(KA:qp P w K mg base C "kind_at" 4 [R8,So] (jC K C cK)):NZ P w K mg base (kX P w) 5 f fd [R8,So] (wo K C cK):=by
 refine F.okX IX (fun vs H Q E h=>?_) (fun Mb A outer s H vs Q E hr h=>?_)
 ·obtain⟨v,D,z,rfl,_⟩:=h;rfl
 ·obtain⟨v,D,z,rfl,hT,h⟩:=h;obtain⟨a,dx,pp,pm,pn,pk,us,rfl,ho,VH,Wl,VI,Ws,L9⟩:=id hT;have VS:N1 4 _:=hr;obtain⟨f1,LW,M1,F1,B1⟩:=KA;refine⟨_,aj (aq (ax aJ (ax aJ (bS (pv 0) rfl) (jB (pv 0) T.cl M1 F1 VS B1 .nil fS (aa (pv 1) ac))) ah)),?_⟩;refine⟨_,rfl,a,C,dx,_,_,rfl,ho,T.cl,T.na Ss zk,rfl,_,rfl,a,dx,_,rfl,ho,rfl,_,rfl,_,D,z,rfl,hT,?_⟩;rcases h with⟨x,rfl,hD,hx,q⟩|⟨nk,q⟩
  ·obtain⟨j,hj⟩:=zq hx;obtain⟨u,hu,p,tf,b,fu,rfl,hp,YX,U8,hb⟩:=rM L9 hj;have Y6:(D.kinds.map Kn.name)[j]?=some x.name:=by rw[Kl,hj];rfl
   exact .inl ⟨x.name,j,rfl,Y6,rL hD.kn Y6,pk,us,_,_,rfl,rfl,NY.of Ws,aU hu,p,_,_,_,rfl,rfl,NY.of hp,rfl,q tf fu YX U8⟩
  ·exact .inr ⟨nk,q⟩
end
def xB:bootBuiltins "ValueError"=some (.type "ValueError"):=by decide +kernel
def AR(K:ZF)(H:Hp)(x:V):Prop:=xX x x=true\/(∃d,Dt K H x d/\d.canLay0=true/\d.depth<=60)\/∃a kvs,x=.ref a/\H a=some (.dK kvs)
def C8(h:AR K H x)(q:Q (.bl true) H):Jx Jt (wn K) x x H Q:=by
 rcases h with h1|⟨d,h1,h2,h3⟩|h1
 ·refine .inl ⟨h1,?_⟩;rw[b_ rfl];exact q
 ·exact .inr ⟨rfl,.inl ⟨d,h1,h2,h3,SeqAt.eqv_refl d h2⟩,q⟩
 ·exact .inr ⟨rfl,.inr h1,q⟩
inductive Jp(K:ZF)(H:Hp)(x:V):Prop
 |mk(t b:_):i6 K H x t->PySem.W.kitOne K t (.type "bool")=some b->Jp K H x
def DN(K:ZF)(H:Hp)(x:V):Prop:=∀H',NV H H'->AR K H' x/\Jp K H' x
inductive il(P:Tv)(w:Tw)(K:ZF)(mg:Str->Option Tr)(base:Heap)(cK:Ts)(k:Nat)(vs:TQ)(H:Hp)(Q:VK)(Z3:XK):Prop
 |mk(f z o fd ps sp:_):vs=[.ref f,z]->H f=some (ip f o)->o.data=.func fd->NZ P w K mg base (kX P w) k f fd ps sp->Oa K fd ps []->DN K H z->(∀Q' E,mY cK z H E->sp [z] H Q' E)->(∀H',NV H H'->Q (.bl true) H')->il P w K mg base cK k vs H Q Z3
section
def QN:av ["_law_ask",SD,S4,Ti] ["_law_ask",SD] (ak lX):=cV zk
def uG(F:Ob K "_law_refused" "_law_refused" lX f fd)(B:Bl mg)(TX:Xs K mg R fR cK fK cT cN):NZ P w K mg base bZ (k+1) f fd ["_law_ask",SD] (il P w K mg base cK k):=by
 have ZZ:=QN
 walk_at "o"
 ·obtain⟨fa,z,o,fda,ps,sp,rfl,hf,hd,Fa,Ba,hz,UC,q⟩:=h;refine⟨_,af (bL (i:=2) QN.nd iw)
   (af (Fz (i:=3) rfl (fun pn ES=>aj (aM (xz P w K mg base hr (i:=0) rfl (Or.inl rfl) fS (aa (pv 1) ac)))) (fun A pn=>aj (bL (i:=2) QN.nd (pv 3))) rfl TX.mR TX.r QN.nd rfl rfl)
   (af (aQ (PW.pt (dP (cr (bU (aC CY (by rfl) B.isinstance bP (aa (pv 2) (aa (bi (v:=.ref cK) rfl TX.mK rfl) ac)))))
    (dP (bU (aC Au (by rfl) B.isinstance bP (aa (pv 2) (aa (ay (aa (bi (v:=.ref cT) rfl TX.mT rfl) (aa (bi (v:=.ref cN) rfl TX.mN rfl) ac))) ac))))
    (c8 (cr (bU (aC sg (by rfl) B.isinstance bP (aa (pv 2) (aa (ef (by rfl) TX.val xB) ac))))))))) (aj (aq fw)) aB)
   (aj (aq (fX (cq (kc aW (xA hr)) (wc (pv 2) rfl) (pv 1)) (fW (cq aW (aC (dE (T:="bool")) (by rfl) B.isinstance bP (aa (wc (pv 2) rfl) (aa (ef (by rfl) B.bool gm) ac)))
    (aC (dE (T:="bool")) (by rfl) B.isinstance bP (aa (pv 1) (aa (ef (by rfl) B.bool gm) ac)))))))))),?_⟩
  refine⟨fa,rfl,_,rfl,o,fda,k,ps,sp,hf,hd,Fa,hr,Ba,UC _ _ fun e d H1 s1 _ xa=>?_⟩;have Xw:(Value.ref cK::nr R).contains (.ref R)=true:=by simp[p_]
  have Yo:(Value.ref cK::nr R).contains (.ref cK)=true:=by simp[p_]
  have n1:cK≠cT:=TX.k.ne TX.t zk;have n2:cK≠cN:=TX.k.ne TX.n zk;have n3:R≠cT:=TX.r.ne TX.t zk;have n4:R≠cN:=TX.r.ne TX.n zk;have hc3:(Value.ref cK::nr R).contains (.ref cT)=false:=by simp[p_,n1.symm,n3.symm]
  have WB:(Value.ref cK::nr R).contains (.ref cN)=false:=by simp[p_,n2.symm,n4.symm]
  refine⟨e,cK,some d,_,"NoKind",nr R,rfl,xa,TX.k,Xw,?_⟩;refine⟨_,rfl,?_⟩;refine⟨_,rfl,e,cK,some d,true,_,"NoKind",nr R,cK,"NoKind",nr R,rfl,xa,TX.k,TX.k,_,rfl,?_⟩;refine be (by rw[Yo];rfl) ?_;refine⟨_,rfl,N5,fun tp np=>⟨e,cK,some d,true,_,"NoKind",nr R,tp,[cT,cN],rfl,xa.same (ag np),TX.k,ae,.cons TX.t (.cons TX.n .nil),_,rfl,be (by rw[Lq,Lq,hc3,WB];rfl) ?_⟩⟩;have xa2:=xa.same (ag (o:=.tup [.ref cT,.ref cN]) np);have s2:NV H (aI H1 tp (.tup [.ref cT,.ref cN])):=s1.trans (ag np);obtain⟨se,tt,b,ht,hb⟩:=hz _ s2;refine⟨_,rfl,e,cK,some d,true,_,"NoKind",nr R,rfl,xa2,TX.k,_,rfl,bK ?_⟩;refine⟨_,rfl,e,cK,d,true,_,"NoKind",nr R,z,rfl,xa2,TX.k,TX.na,rfl,_,rfl,C8 se ⟨true,rfl,im ?_⟩⟩;refine⟨_,rfl,e,cK,d,true,_,"NoKind",nr R,z,rfl,xa2,TX.k,TX.na,rfl,z,tt,b,rfl,ht,hb,_,rfl,z,tt,b,rfl,ht,hb,rfl,?_⟩;rw[b_ rfl];exact q _ s2
end
def xC:bootBuiltins "int"=some (.type "int"):=by decide +kernel
mutual
inductive Sm(H:Hp):Nat->V->V->Prop
 |non {n:Nat}:Sm H (n+1) .non .non
 |int {n:Nat} (i:Int):Sm H (n+1) (.int i) (.int i)
 |str {n:Nat} (x:Str):Sm H (n+1) (.str x) (.str x)
 |tup {n:Nat} {a b:Ts} {xs ys:TQ}:H a=some (.tup xs)->H b=some (.tup ys)->xs.length<=1000->Os H n xs ys->Sm H (n+1) (.ref a) (.ref b)
inductive Os(H:Hp):Nat->TQ->TQ->Prop
 |nil {n:Nat}:Os H n [] []
 |cons {n:Nat} {x y:V} {xs ys:TQ}:Sm H n x y->Os H n xs ys->Os H n (x::xs) (y::ys)
end
mutual
def Sm.kt(k:N9 H H'):∀{n:Nat}{x y:V},Sm H n x y->Sm H' n x y
 |_,_,_,.non=>.non
 |_,_,_,.int i=>.int i
 |_,_,_,.str x=>.str x
 |_,_,_,.tup a b l t=>.tup (k _ _ a) (k _ _ b) l (Os.kt k t)
def Os.kt(k:N9 H H'):∀{n:Nat}{xs ys:TQ},Os H n xs ys->Os H' n xs ys
 |_,_,_,.nil=>.nil
 |_,_,_,.cons a t=>.cons (Sm.kt k a) (Os.kt k t)
end
def Os.len:∀{xs ys:TQ},Os H n xs ys->xs.length=ys.length
 |_,_,.nil=>rfl
 |_,_,.cons _ t=>by rw[JX,JX,t.len]
def Os.get:∀{xs ys:TQ},Os H n xs ys->∀{i:Nat}{x y:V},xs[i]?=some x->ys[i]?=some y->Sm H n x y
 |_,_,.nil,_,_,_,a,_=>by simp at a
 |_,_,.cons h t,0,x,y,a,b=>by simp at a b;subst a b;exact h
 |_,_,.cons h t,i+1,x,y,a,b=>t.get (i:=i) (by simpa using a) (by simpa using b)
def Pa(n:Nat):Sp:=fun vs H Q _=>∃x y,vs=[x,y]/\Sm H n x y/\∀H',NV H H'->Q (.bl true) H'
section
def QX:av [Sf,SH] [Sf,SH] (ak lW):=cV zk
def Q8:([Th,"_law_other"]:TH).Nodup:=by decide +kernel
def QK(F:Ob K "_law_same" "_law_same" lW f fd)(B:Bl mg)(hzip:mg "zip"=none)(SM:Fn P w K mg base "_law_same" (n+1) [Sf,SH] (Pa n)):NZ P w K mg base bZ (n+2) f fd [Sf,SH] (Pa (n+1)):=by
 have ZZ:=QX
 walk_at "o"
 ·obtain⟨x,y,rfl,hm,q⟩:=h;have LU:N1 (n+1) _:=hr;refine⟨_,af (aQ (bU (aC (dE (T:="tuple")) (by rfl) B.isinstance bP (aa (pv 1) (aa (ef (by rfl) B.tuple br) ac))))
    (af (aQ (PW.pt (dP (cr (bU (aC (dE (T:="tuple")) (by rfl) B.isinstance bP (aa (pv 0) (aa (ef (by rfl) B.tuple br) ac)))))
     (c8 (ap qD (aC aY (by rfl) B.len Kt (aa (pv 0) ac)) (aC aY (by rfl) B.len Kt (aa (pv 1) ac)))))) (aj (aq fw)) aB)
    (aj (aq (aC (gF rfl) (by rfl) B.all fH (aa (dQ (N':=[Th,"_law_other"]) (ix:=[none,none]) (sc0:=ak lW) (N:=[Sf,SH]) rfl zk (Ch true true rfl hzip (aa (pv 0) (aa (pv 1) ac)))
     (fun C' cl s H fp=>dh (K:=K) (n:=2) rfl rfl (aw (cG (i:=0) Q8) (aw (cG (i:=1) Q8) bB)))
     (fun _ _ _ _ _=>dM) (fun C' cl s H fp=>ar SM LU rfl (aa (pv 0) (aa (pv 1) ac)))) ac))))) aB)
   (af (aQ (PW.pt (dP (lB (DY (pv 1))) (c8 (bU (aC (dE (T:="str")) (by rfl) B.isinstance bP (aa (pv 1) (aa (ef (by rfl) B.str cH) ac)))))))
    (aj (aq (fX (cq aW (pv 0) (pv 1)) (fW (cq aW (aC (dE (T:="str")) (by rfl) B.isinstance bP (aa (pv 0) (aa (ef (by rfl) B.str cH) ac)))
     (aC (dE (T:="str")) (by rfl) B.isinstance bP (aa (pv 1) (aa (ef (by rfl) B.str cH) ac)))))))) aB)
   (aj (aq (fX (aC (dE (T:="int")) (by rfl) B.isinstance bP (aa (pv 0) (aa (ef (by rfl) B.int xC) ac))) (fX (xL (aC (dE (T:="bool")) (by rfl) B.isinstance bP (aa (pv 0) (aa (ef (by rfl) B.bool gm) ac)))) (fW (cq aW (pv 0) (pv 1)))))))),?_⟩
  cases hm with
  |non=>
   refine⟨_,rfl,_,_,_,rfl,.non,rfl,_,rfl,bK ?_⟩;refine⟨_,rfl,_,rfl,im ?_⟩;refine⟨_,rfl,_,rfl,rfl,_,rfl,im ?_⟩;exact⟨_,rfl,_,_,_,rfl,.non,rfl,_,rfl,_,_,_,rfl,.non,rfl,rfl,q _ (NV.refl _)⟩
  |int i=>
   refine⟨_,rfl,_,_,_,rfl,.int i,rfl,_,rfl,bK ?_⟩;refine⟨_,rfl,_,rfl,bK ?_⟩;refine⟨_,rfl,_,_,_,rfl,.int i,rfl,_,rfl,bK ?_⟩;refine⟨_,rfl,_,_,_,rfl,.int i,rfl,_,rfl,im ?_⟩;refine⟨_,rfl,_,_,_,rfl,.int i,rfl,_,rfl,_,rfl,im ?_⟩;refine⟨_,rfl,_,rfl,rfl,?_⟩;rw[b_ rfl];exact q _ (NV.refl _)
  |str z=>
   refine⟨_,rfl,_,_,_,rfl,.str z,rfl,_,rfl,bK ?_⟩;refine⟨_,rfl,_,rfl,bK ?_⟩;refine⟨_,rfl,_,_,_,rfl,.str z,rfl,_,rfl,im ?_⟩;refine⟨_,rfl,_,rfl,rfl,_,rfl,bD (b_ rfl) ?_⟩;exact⟨_,rfl,_,_,_,rfl,.str z,rfl,_,rfl,_,_,_,rfl,.str z,rfl,rfl,q _ (NV.refl _)⟩
  |@tup _ a b xs ys ha hb hl hs=>
   refine⟨_,rfl,_,_,_,rfl,.tup hb,rfl,_,rfl,im ?_⟩;refine⟨_,rfl,_,_,_,rfl,.tup ha,rfl,_,rfl,bK ?_⟩;have l3:=hs.len;refine⟨_,rfl,a,_,rfl,.inr (NY.of ha),_,rfl,b,_,rfl,.inr (NY.of hb),rfl,_,rfl,be (by rw[l3];simp) ?_⟩;refine⟨_,rfl,_,rfl,a,b,rfl,⟨_,NY.of ha⟩,⟨_,NY.of hb⟩,?_⟩;walk_at "w"
   refine Ci (b1:=true) (b2:=true) (K:=K) (l1:=a) (l2:=b) (xs:=xs) (ys:=ys) l3 (fun i Ut H'=>NV H H'/\Ut=(List.replicate i true).map V.bl) ⟨NV.refl _,rfl⟩ (fun i Ut H' hi⟨s1,e1⟩=>⟨NY.of (s1 _ _ ha),NY.of (s1 _ _ hb),by rw[e1,JY,Lm];lia⟩) ?_ ?_
   ·rintro i x y Ut H' T1 hx hy nT ⟨s1,rfl⟩;have Mc:=s1.trans (ag (o:=.tup [x,y]) nT);refine⟨T1,_,rfl,NY.of ae,rfl,_,_,rfl,_,_,rfl,rfl,trivial,dN ?_⟩;refine⟨_,rfl,_,rfl,x,y,rfl,(hs.get hx hy).kt (ao Mc),fun H3 s3=>?_⟩;refine Nx.mk (JV.mp hx).1 ⟨Mc.trans s3,?_⟩;rw[Rr,Kb];rfl
   ·rintro Ut H' ⟨s1,rfl⟩ D' Vq;refine⟨D',List.replicate xs.length true,rfl,N0.of ae,?_⟩;have:(List.replicate xs.length true).all id=true:=by simp
    rw[this];exact q _ (s1.trans (ag Vq))
end
end L3
namespace L2
def mZ(h:X.K=K):dJ X (.type "tuple") (fun xs H Q=>∃p ys,xs=[.ref p]/\((N0 K H p ys/\∀l,H l=none->Q (.ref l) (aI H l (.tup ys)))\/(NY K H p ys/\Q (.ref p) H))):=by
 subst h;exact bh
end L2
namespace L3
open PySem L2
inductive li(vs:TQ)(H:Hp)(Q:VK)(Z3:XK):Prop
 |mk(d D gt kvs lp lm lk us fn:_):vs=[.ref d]->PL H d D gt kvs lp lm lk us->iU D fn gt->(∀v H',NV H H'->Ol H' v D->Q v H')->li vs H Q Z3
def Qt.kd(h:Qt lk H u x):∃t lf b fu,u=.ref t/\H t=some (.tup [.str x.name,.ref lf,b])/\H lf=some (.lst fu)/\Paired (Oh H) fu x.fs/\Pp H x.dd b:=
 let⟨t,lf,b,e,_,h1,⟨fu,h2,h3⟩,h4⟩:=h
 ⟨t,lf,b,fu,e,h1,h2,h3,h4⟩
def su{α β:Type}{R:α->β->Prop}{x:α}{y:β}(r:R x y):∀{xs:List α}{ys:List β},Paired R xs ys->Paired R (xs++[x]) (ys++[y])
 |_,_,.nil=>.cons r .nil
 |_,_,.cons a t=>.cons a (su r t)
def xD{α β:Type}{R:α->β->Prop}{xs:List α}{ys:List β}{i:Nat}{x:α}{y:β}(h:Paired R xs (ys.take i))(e:ys[i]?=some y)(r:R x y):Paired R (xs++[x]) (ys.take (i+1)):=by
 have:ys.take (i+1)=ys.take i++[y]:=by
  rw[Rg,e];rfl
 rw[this];exact su r h
section
def OR:av [R5,"_law_gate","_law_kinds",SY] [R5] (ak o8):=cV zk
def AS:([Sn,R7,Si]:TH).Nodup:=by decide +kernel
def AU{f:Ts}{fd:TB}(F:Ob K "_law_told" "_law_told" o8 f fd)(B:Bl mg):NZ P w K mg base bZ 1 f fd [R5] li:=by
 have ZZ:=OR
 walk_at "o"
 ·obtain⟨d,D,gt,kvs,lp,lm,lk,us,fn,rfl,hV,hD,q⟩:=h;have hu:=eY hr;walk_at "w"
  refine⟨_,af (bL (i:=1) OR.nd iw)
   (bf (fun σ H'=>σ=[some (.ref d),some (cD D),none,none]/\H'=H) (aQ (lB (Bm (aZ hu (pv 0) ai))) (aj (bL (i:=1) OR.nd (ax aP (aZ hu (pv 0) ai) (aZ hu (pv 0) ai)))) aB)
   (af (bL (i:=2) OR.nd (aV bh (by rfl) B.tuple br (aa (dQ (N':=[Sn,R7,Si]) (ix:=[none,none,none]) (sc0:=ak o8) (N:=[R5,"_law_gate","_law_kinds",SY]) rfl zk (de (aZ hu (pv 0) ai))
     (fun C' cl s H fp=>dh (K:=K) (n:=3) rfl rfl (aw (cG (i:=0) AS) (aw (cG (i:=1) AS) (aw (cG (i:=2) AS) bB)))) (fun _ _ _ _ _=>dM)
     (fun C' cl s H fp=>ay (aa (pv 0) (aa (aV (mZ (K:=K) rfl) (by rfl) B.tuple br (aa (pv 1) ac)) (aa (pv 2) ac))))) ac)))
   (af (bL (i:=3) OR.nd (ay (aa (aZ hu (pv 0) ai) (aa (aZ hu (pv 0) ai) (aa (aZ hu (pv 0) ai) (aa (aV bh (by rfl) B.tuple br (aa (aZ hu (pv 0) ai) ac)) (aa (aV bh (by rfl) B.tuple br (aa (aZ hu (pv 0) ai) ac)) (aa (pv 1) ac))))))))
   (aj (aq (aA Bx (pv 3) (ay (aa (pv 2) ac)))))))),?_⟩
  refine⟨?_,?_⟩;rotate_left
  ·refine⟨_,rfl,d,_,rfl,bj hV.ed hV.v6,?_⟩;have ga:=hD.ga;cases gt with
   |none=>
    refine⟨_,rfl,bK ⟨?_,rfl⟩⟩;have:cD D=.non:=by unfold cD;rw[ga];rfl
    rw[this];rfl
   |some g=>
    have hg:=hD.gb g rfl;have:cD D=.str (D.marks.getD g ""):=by unfold cD;rw[ga];rfl
    refine⟨_,rfl,im ?_⟩;refine⟨_,rfl,d,_,rfl,bj hV.ed hV.v5,_,rfl,d,_,rfl,bj hV.ed hV.v6,lm,al D.marks,_,.str (D.marks.getD g ""),rfl,rfl,N0.of hV.em,aU ?_,?_,rfl⟩
    ·unfold al;rw[Kl,J1 hg,Kv,J1 hg];rfl
    ·rw[this];rfl
  ·rintro σ H1 ⟨rfl,rfl⟩;refine⟨_,rfl,d,_,rfl,bj hV.ed hV.v7,lk,rfl,⟨_,N0.of hV.ek⟩,?_⟩;have kl:=hV.ks.length;have k8:D.kinds.length<=8:=(eV hD).k8;refine eu (K:=K) (a:=lk) (xs:=us) (fun i ys H'=>NV H1 H'/\Paired (OI H') ys (D.kinds.take i)) ⟨NV.refl _,.nil⟩ (fun i ys H' hi⟨s1,pr⟩=>⟨N0.of (s1 _ _ hV.ek),?_⟩) ?_ ?_
   ·have:=pr.length;rw[J9]at this;lia
   ·rintro i u ys H2 YV ⟨s1,pr⟩;obtain⟨x,hx,hk⟩:=gq hV.ks YV;obtain⟨t,lf,b,fu,rfl,h1,h2,h3,h4⟩:=hk.kd;refine⟨t,_,rfl,NY.of (s1 _ _ h1),rfl,_,_,rfl,_,_,rfl,_,_,rfl,rfl,trivial,dN ?_⟩;refine⟨_,rfl,_,rfl,lf,fu,rfl,.inl ⟨N0.of (s1 _ _ h2),fun tf ntf=>?_⟩⟩;refine⟨_,rfl,by show 3<=sizeLine;lia,fun p np=>?_⟩;have s2:NV H2 (aI H2 tf (.tup fu)):=ag ntf;have s3:NV (aI H2 tf (.tup fu)) _:=ag (o:=.tup [.str x.name,.ref tf,b]) np;have s4:=(s1.trans s2).trans s3;refine Nx.mk (JV.mp YV).1 ⟨s4,xD (bF (fun _ _ h=>OI.kt (ao (s2.trans s3)) h) pr) hx ⟨p,tf,b,fu,rfl,ae,s3 _ _ ae,bF (fun _ _ h=>Oh.kt (ao s4) h) h3,h4.kt (ao s4)⟩⟩
   ·rintro ys H2 ⟨s1,pr⟩ L hL;rw[kl,Ky]at pr;refine⟨L,ys,rfl,.inl ⟨N0.of ae,fun pk YL=>?_⟩⟩;have s2:NV H2 (aI H2 L (.lst ys)):=ag hL;have s3:NV (aI H2 L (.lst ys)) _:=ag (o:=.tup ys) YL;have s4:=(s1.trans s2).trans s3;have V4:=hV.same s4;refine⟨_,rfl,d,_,rfl,bj V4.ed V4.v1,_,rfl,d,_,rfl,bj V4.ed V4.v2,_,rfl,d,_,rfl,bj V4.ed V4.v3,_,rfl,d,_,rfl,bj V4.ed V4.v4,lp,_,rfl,.inl ⟨N0.of V4.ep,fun pp npp=>?_⟩⟩;have s5:=ag (o:=.tup (al D.places)) npp;have V5:=V4.same s5;refine⟨_,rfl,d,_,rfl,bj V5.ed V5.v5,lm,_,rfl,.inl ⟨N0.of V5.em,fun pm npm=>?_⟩⟩;have s6:=ag (o:=.tup (al D.marks)) npm;refine⟨_,rfl,by show 6<=sizeLine;lia,fun ph nph=>?_⟩;have s7:=ag (o:=.tup [.int D.width,.int D.cells,.int D.depth,.ref pp,.ref pm,cD D]) nph;refine⟨_,rfl,_,rfl,by show 1<=sizeLine;lia,fun po npo=>?_⟩;have s8:=ag (o:=.tup [.ref pk]) npo;refine⟨ph,po,_,_,rfl,rfl,NY.of (s8 _ _ ae),NY.of ae,by simp,by show 7<=sizeLine;lia,(fun z=>nomatch z),fun _ pr' npr=>?_⟩;have s9:=ag (o:=.tup ([.int D.width,.int D.cells,.int D.depth,.ref pp,.ref pm,cD D]++[.ref pk])) npr;have t5:=(((s5.trans s6).trans s7).trans s8).trans s9;have t6:=((s6.trans s7).trans s8).trans s9;have t7:=(s7.trans s8).trans s9;refine q _ _ (s4.trans t5) ⟨pr',pp,pm,pk,ys,rfl,ae,t6 _ _ ae,t7 _ _ ae,t5 _ _ ae,bF (fun _ _ h=>OI.kt (ao ((s2.trans s3).trans t5)) h) pr⟩
end
end L3
namespace L2
open PySem
def xE{l:TJ}{b:Nat}(h:∀x∈l,x<=b):l.sum<=b*l.length:=by
 induction l with
 |nil=>simp
 |cons a r ih=>
  have h1:=h a JW;have h2:=ih fun x hx=>h x (JZ _ hx);rw[Lz,JX,Nat.mul_succ];lia
def AV:∀c∈List.range 128,(Unicode.upperOf c).length<=3:=by decide +kernel
def FJ{x:Str}(h:∀c∈x.cps.toList,c<128)(hl:x.length<=100):Builtin.Str.tooLong (placed x fun _ c=>Unicode.upperOf c).size=false:=by
 have hb:(placed x fun _ c=>Unicode.upperOf c).size<=3*x.cps.size:=by
  unfold placed;rw[Array.size_flatten,<-Array.sum_toList];refine Kx (xE (b:=3) fun n hn=>?_) ?_
  ·simp only[Array.toList_map,Array.toList_mapIdx,Kr,List.mem_mapIdx]at hn;obtain⟨a,⟨i,hi,rfl⟩,rfl⟩:=hn;have hc:=h _ (KJ hi);have:=AV _ (K1.mpr hc);simpa using this
  ·simp
 have h2:x.cps.size<=100:=hl;unfold Builtin.Str.tooLong;walk_at "w"
 exact d_ zo
def H0(x:Str):Str:=⟨placed x fun _ c=>Unicode.upperOf c⟩
def AW:F9 X "str.upper" (fun x xs H Q=>∃a,x=.str a/\xs=[]/\(∀c∈a.cps.toList,c<128)/\a.length<=100/\Q (.str (H0 a)) H):=by
 intro pins s σ H x xs v us Q I rx rv h;obtain⟨a,rfl,rfl,h1,h2,q⟩:=h;obtain⟨t,rfl⟩:=rx;cases rv;have hf:=FJ h1 h2;exact call_gives F.slot_str_upper (Rl _ _ _) F.entry_str_upper (F.args_str_upper_1 _) (gives_str_upper a t hf) ⟨fit_le hf,.str (H0 a),H,I.tok _,⟨_,rfl⟩,q⟩
def uH(h:X.K=K):fv X (compareOp .NotIn) (HV K true):=by
 subst h;exact eo
def uI(h:X.K=K)(hr:N1 k X.A):fv X (compareOp .NotIn) (wm K):=by
 subst h;exact oE hr
end L2
namespace L3
open PySem L2
def C9(h:Paired (Qt lk H) us ks)(x y z:Int):HO.lst us≠o9 x y z:=by
 intro e;have e':us=[V.int x,.int y,.int z]:=by
  unfold o9 at e;exact HO.lst.inj e
 subst e';cases h with
 |cons h _=>
  obtain⟨t,lf,b,e,_⟩:=h;cases e
def PL.but(h:PL H d D gt kvs lp lm lk us)(g:N6 H p)(b:Of p H H'):PL H' d D gt kvs lp lm lk us:=
 ⟨b _ _ h.ed (bv g h.ed (fun _ _ _ z=>by cases z)),h.v1,h.v2,h.v3,h.v4,h.v5,h.v6,h.v7,b _ _ h.ep (bv g h.ep (cE _)),b _ _ h.em (bv g h.em (cE _)),b _ _ h.ek (bv g h.ek (C9 h.ks)),bF (fun _ _ h'=>Qt.kp (Hu g b) (zL g b) h') h.ks⟩
def PB(H:Hp)(z:V):Prop:=dZ z=true\/∃a,z=.ref a/\((∃n,kD n=true/\(H a=some (.lst [.str n])\/H a=some (.tup [.str n])))\/∃kvs,H a=some (.dK kvs))
def PB.same(h:PB H z)(s:NV H H'):PB H' z:=by
 rcases h with h|⟨a,e,⟨n,o,h|h⟩|⟨kvs,h⟩⟩
 ·exact .inl h
 ·exact .inr ⟨a,e,.inl ⟨n,o,.inl (s _ _ h)⟩⟩
 ·exact .inr ⟨a,e,.inl ⟨n,o,.inr (s _ _ h)⟩⟩
 ·exact .inr ⟨a,e,.inr ⟨kvs,s _ _ h⟩⟩
def AX(h:dZ z=true):xX z z=true/\Jp K H z:=by
 cases z with
 |non=>exact⟨rfl,_,_,.non,rfl⟩
 |bl b=>exact⟨rfl,_,_,.bl b,rfl⟩
 |int i=>exact⟨rfl,_,_,.int i,rfl⟩
 |str x=>exact⟨rfl,_,_,.str x,rfl⟩
 |_=>exact absurd (show false=true from h) Kh
def wq(o:kD n=true):PyData.canLayAll0 [.str n]=true:=by
 have o':(PyData.str n).canLay0=true:=o;simp only[PyData.canLayAll0,o',RB]
def PB.thing(h:PB H z):DN K H z:=by
 intro H' s;rcases h.same s with h|⟨a,rfl,⟨n,o,h|h⟩|⟨kvs,h⟩⟩
 ·exact⟨.inl (AX (K:=K) (H:=H') h).1,(AX h).2⟩
 ·exact⟨.inr (.inl ⟨_,.lst (N0.of h) (.cons (.str n) .nil),wq o,by simp[PyData.depth,PyData.depthAll]⟩),_,_,.lst h,rfl⟩
 ·exact⟨.inr (.inl ⟨_,.tup (NY.of h) (.cons (.str n) .nil),wq o,by simp[PyData.depth,PyData.depthAll]⟩),_,_,.tup h,rfl⟩
 ·exact⟨.inr (.inr ⟨a,kvs,rfl,h⟩),_,_,.dK h,rfl⟩
def PB.ref(h:PB H z)(f:dZ z=false):∃a,z=.ref a/\wl K H a:=by
 rcases h with h|⟨a,rfl,⟨n,o,h|h⟩|⟨kvs,h⟩⟩
 ·rw[h]at f;cases f
 ·exact⟨a,rfl,.inl ⟨_,N0.of h⟩⟩
 ·exact⟨a,rfl,.inr (.inl ⟨_,NY.of h⟩)⟩
 ·exact⟨a,rfl,.inr (.inr ⟨kvs,h⟩)⟩
inductive ke(K:ZF)(vs:TQ)(H:Hp)(Q:VK)(Z3:XK):Prop
 |mk(d p D gt kvs lp lm lk us fn:_):vs=[.ref d,.ref p]->N6 H p->PL H d D gt kvs lp lm lk us->iU D fn gt->(∀l zs H',N6 H' p->Of p H H'->H l=none->H' l=some (.lst zs)->zs.length<=100->(∀z∈zs,PB H' z/\Pl K H' D z)->Q (.ref l) H')->ke K vs H Q Z3
section
def PD:av [R5,R6,Sl,Sn,"_law_some"] [R5,R6] (ak fG):=cV zk
def HJ:([Sw]:TH).Nodup:=by decide +kernel
def DP:([Tg,Sv]:TH).Nodup:=by decide +kernel
def HK:([SD,Sl]:TH).Nodup:=by decide +kernel
inductive AY(d:Ts)(p:Ts)(H:Hp)(D:Fm)(σ:St)(H':Hp):Prop
 |mk(ln:_):σ=[some (.ref d),some (.ref p),some (.ref ln),none,none]->NV H H'->H ln=none->H' ln=some (.lst (al (D.kinds.map Kn.name)))->AY d p H D σ H'
inductive AZ(d:Ts)(p:Ts)(H:Hp)(D:Fm)(σ:St)(H':Hp):Prop
 |mk(ln z:_):σ=[some (.ref d),some (.ref p),some (.ref ln),some (.str z),none]->N6 H' p->Of p H H'->H ln=none->H' ln=some (.lst (al (D.kinds.map Kn.name)))->cm z->AZ d p H D σ H'
inductive A1(d:Ts)(p:Ts)(H:Hp)(D:Fm)(σ:St)(H':Hp):Prop
 |mk(ln z l zs:_):σ=[some (.ref d),some (.ref p),some (.ref ln),some (.str z),some (.ref l)]->N6 H' p->Of p H H'->H ln=none->H' ln=some (.lst (al (D.kinds.map Kn.name)))->cm z->H' l=some (.lst zs)->zs.length=11->(∀z∈zs,PB H' z)->A1 d p H D σ H'
inductive A2(d:Ts)(p:Ts)(H:Hp)(D:Fm)(σ:St)(H':Hp):Prop
 |mk(ln z l zs:_):σ=[some (.ref d),some (.ref p),some (.ref ln),some (.str z),some (.ref l)]->N6 H' p->Of p H H'->H ln=none->H' ln=some (.lst (al (D.kinds.map Kn.name)))->H' l=some (.lst zs)->zs.length<=100->(∀z∈zs,PB H' z)->A2 d p H D σ H'
def uJ(F:Ob K "_law_no_kinds" "_law_no_kinds" fG f fd)(B:Bl mg)(G':Fn P w K mg base "_law_take" 1 [R6,Sq] eO):NZ P w K mg base bZ 2 f fd [R5,R6] (ke K):=by
 have ZZ:=PD
 walk_at "o"
 ·obtain⟨d,p,D,gt,kvs,lp,lm,lk,us,fn,rfl,hp,hV,hD,q⟩:=h;have hu:=eY hr;have LU:N1 1 _:=hr;walk_at "w"
  have FO:=eV hD;refine⟨_,bf (AY d p H D) (xP (i:=2) PD.nd rfl (Or.inr rfl) (dQ (N':=[Sw]) (ix:=[none]) (sc0:=ak fG) (N:=[R5,R6,Sl,Sn,"_law_some"]) rfl zk (de (aZ hu (pv 0) ai))
     (fun C' cl s H fp=>cG (i:=0) HJ) (fun _ _ _ _ _=>dM) (fun C' cl s H fp=>ax (kH (K:=K) rfl) (pv 0) ah (fun _ _=>rfl))))
   (bf (AZ d p H D) (bL (i:=3) PD.nd (ax aP (pv 2) (ar G' LU rfl (aa (pv 1) (aa (aC aY (by rfl) B.len Kt (aa (pv 2) ac)) ac)))))
   (bf (A1 d p H D) (bL (i:=4) PD.nd (aT (aa iw (aa ah (aa fw (aa ai (aa (aA aH (pv 3) ai) (aa (dC lM (pv 3) i7 (cW (Gq D5 ah)))
     (aa (Ea KR PySem.F.slot_str_upper PySem.F.type_str_upper AW (pv 3)) (aa (aT (aa (pv 3) ac)) (aa (ay (aa (pv 3) ac)) (aa (vf (ja (pv 3) ah u9) rfl rfl (by intro z;cases z) (by show 1<=15;decide)) (aa (ax aP (aZ hu (pv 0) ai) ah) ac)))))))))))))
   (bf (A2 d p H D) (bL (i:=4) PD.nd (aA dL (aA dL (pv 4) (aT (aa ai (aa (aA aH ai (pv 3)) ac))))
     (dQ (N':=[Tg,Sv]) (ix:=[none,none]) (sc0:=ak fG) (N:=[R5,R6,Sl,Sn,"_law_some"]) rfl zk (de (ax aJ (ax aP (aZ hu (pv 0) ai) ah) ah))
      (fun C' cl s H fp=>dh (K:=K) (n:=2) rfl rfl (aw (cG (i:=0) DP) (aw (cG (i:=1) DP) bB))) (fun _ _ _ _ _=>dM) (fun C' cl s H fp=>pv 0))))
   (aj (aq (dQ (N':=[SD,Sl]) (ix:=[none,some 2]) (sc0:=ak fG) (N:=[R5,R6,Sl,Sn,"_law_some"]) rfl zk (de (pv 4))
     (fun C' cl s H fp=>cG (i:=0) HK) (fun C' cl s H fp=>iC (ap (kc (uH (K:=K) rfl) (uI (K:=K) rfl hr)) (pv 0) (pv 1) rfl)) (fun C' cl s H fp=>pv 0))))))),?_⟩
  refine⟨?_,?_⟩;rotate_left
  ·refine⟨_,rfl,d,_,rfl,bj hV.ed hV.v7,lk,rfl,⟨_,N0.of hV.ek⟩,?_⟩;have kl:=hV.ks.length;have k8:=FO.k8;refine eu (K:=K) (a:=lk) (xs:=us) (fun i ys H'=>NV H H'/\ys=al ((D.kinds.take i).map Kn.name)) ⟨NV.refl _,rfl⟩ (fun i ys H' hi⟨a1,a2⟩=>⟨N0.of (a1 _ _ hV.ek),by rw[a2];unfold al;rw[JY,JY,J9];lia⟩) ?_ ?_
   ·rintro i u ys H2 YV ⟨a1,rfl⟩;obtain⟨x,hx,hk⟩:=gq hV.ks YV;obtain⟨t,lf,b,fu,rfl,h1,_⟩:=hk.kd;refine⟨trivial,dN ?_⟩;refine⟨_,rfl,t,_,_,_,rfl,rfl,NY.of (a1 _ _ h1),rfl,Nx.mk (JV.mp YV).1 ⟨a1,?_⟩⟩;unfold al;rw[Rg,hx];simp
   ·rintro ys H2 ⟨a1,rfl⟩ L hL;refine⟨L,rfl,a1.trans (ag hL),a1.free hL,?_⟩;rw[ae,kl,Ky]
  rintro σ H1 ⟨ln,rfl,s1,nl,el⟩;have g1:N6 H1 p:=let⟨x,y,z,e⟩:=hp;⟨x,y,z,s1 _ _ e⟩;have np:ln≠p:=fun z=>by
   obtain⟨_,_,_,e⟩:=hp;rw[<-z,nl]at e;cases e
  refine⟨?_,?_⟩;rotate_left
  ·have k1:1<=D.kinds.length:=by
    obtain⟨c,k,hm,_⟩:=hD.kl;unfold pY at hm;lia
   have k8:=FO.k8;have kn:(al (D.kinds.map Kn.name)).length=D.kinds.length:=by unfold al;rw[JY,JY]
   refine⟨_,rfl,_,rfl,_,rfl,ln,_,rfl,.inl (N0.of el),p,(al (D.kinds.map Kn.name)).length,rfl,g1,zo,Nat.lt_of_le_of_lt (by lia:_<=8) zd,fun r H2 LV g2 b2=>?_⟩;have Uu:r<D.kinds.length:=by lia
   refine⟨ln,_,_,.str (D.kinds[r].name),rfl,rfl,N0.of (b2 _ _ el np),aU ?_,ln,_,rfl,g2,fun b o hb ne=>b2 _ _ (s1 _ _ hb) ne,nl,b2 _ _ el np,hD.kf _ (KJ Uu)⟩;unfold al;rw[Kl,Kl,J1 Uu];rfl
  rintro σ H2 ⟨ln,z,rfl,g2,b2,nl,el,hz⟩;refine⟨?_,?_⟩;rotate_left
  ·have ze:z=S (cp z):=(fL z).symm;have zl:=hz.1.2.2.1;have zc:=hz.1.2.2.2;have ezl:(cp z).length<=8:=by
    have h1:(S (cp z)).length=(cp z).length:=aG _;rw[<-ze]at h1;lia
   refine⟨_,rfl,_,_,rfl,rfl,?_,?_⟩
   ·have:("x":Str).length=1:=by decide +kernel
    lia
   have V2:=hV.but hp b2;have p1:=hD.p1;obtain⟨w0,ws,ew⟩:∃w0 ws,D.places=w0::ws:=by
    cases e:D.places with
    |nil=>rw[e]at p1;simp at p1
    |cons a b=>exact⟨a,b,rfl⟩
   refine⟨_,rfl,1,rfl,_,rfl,cp z,e_ V.str ze,zo,?_⟩;refine⟨_,rfl,rfl,z,rfl,rfl,fun c hc=>by have:=zc c hc;lia,zo,?_⟩;refine⟨_,rfl,by show 1<=sizeLine;lia,fun la nla=>?_⟩;have s1:=ag (o:=.lst [.str z]) nla;refine⟨_,rfl,by show 1<=sizeLine;lia,fun lt nlt=>?_⟩;have s2:=ag (o:=.tup [.str z]) nlt;refine fun ld nld=>⟨_,rfl,ae,[(kS z,.int 1)],rfl,by show 1<=15;decide,?_⟩;have s3:NV (aI (aI H2 la (.lst [.str z])) lt (.tup [.str z])) (aI (aI (aI (aI H2 la (.lst [.str z])) lt (.tup [.str z])) ld (.dK [])) ld (.dK (gh [] [(kS z,.int 1)]))):=fun b o hb=>by
    have ne:b≠ld:=az hb nld;rw[am ne,am ne];exact hb
   have s4:=(s1.trans s2).trans s3;have V3:=V2.same s4;refine⟨_,rfl,d,_,rfl,bj V3.ed V3.v4,lp,_,0,.str w0,rfl,rfl,N0.of V3.ep,aU (j:=0) (by rw[ew];rfl),by show 11<=sizeLine;lia,fun l nl2=>?_⟩;have s5:=s4.trans (ag (o:=.lst [.non,.int 7,.bl true,.str "",.str (z++"x"),.str (S (gf (cp z) none (some (-1)))),.str (H0 z),.ref la,.ref lt,.ref ld,.str w0]) nl2);have s6:∀{b:Ts}{o:HO},aI (aI (aI (aI H2 la (.lst [.str z])) lt (.tup [.str z])) ld (.dK [])) ld (.dK (gh [] [(kS z,.int 1)])) b=some o->_:=fun{b o}h=>ag (o:=.lst [.non,.int 7,.bl true,.str "",.str (z++"x"),.str (S (gf (cp z) none (some (-1)))),.str (H0 z),.ref la,.ref lt,.ref ld,.str w0]) nl2 b o h;refine⟨ln,z,l,_,rfl,let⟨x,y,w,e⟩:=g2;⟨x,y,w,s5 _ _ e⟩,fun b o hb ne=>s5 _ _ (b2 _ _ hb ne),nl,s5 _ _ el,hz,ae,rfl,fun u hu=>?_⟩;have ok:=dS hz.1;simp only[J0,Kc,l_]at hu;rcases hu with rfl|rfl|rfl|rfl|rfl|rfl|rfl|rfl|rfl|rfl|rfl
   ·exact .inl rfl
   ·exact .inl rfl
   ·exact .inl rfl
   ·exact .inl rfl
   ·exact .inl rfl
   ·exact .inl rfl
   ·exact .inl rfl
   ·exact .inr ⟨la,rfl,.inl ⟨z,ok,.inl (s6 (s3 _ _ (s2 _ _ ae)))⟩⟩
   ·exact .inr ⟨lt,rfl,.inl ⟨z,ok,.inr (s6 (s3 _ _ ae))⟩⟩
   ·exact .inr ⟨ld,rfl,.inr ⟨_,s6 ae⟩⟩
   ·exact .inl rfl
  rintro σ H3 ⟨ln,z,l,zs,rfl,g3,b3,nl,el,hz,el3,Yk,th3⟩;refine⟨?_,?_⟩;rotate_left
  ·have V3:=hV.but hp b3;have zl:=hz.1.2.2.1;have ll:(" ":Str).length=1:=by decide +kernel
   have k1:1<=D.kinds.length:=by
    obtain⟨c,k,hm,_⟩:=hD.kl;unfold pY at hm;lia
   have hx0:D.kinds[0]?=some D.kinds[0]:=J1 k1;obtain⟨u0,hu0,Y5⟩:=rM V3.ks hx0;obtain⟨t,lf,b,fu,rfl,h1,h2,h3,_⟩:=Y5.kd;have f3:fu.length<=3:=by
    rw[h3.length];exact(FO.kf _ (KJ k1)).l3
   refine⟨_,rfl,_,rfl,_,_,rfl,rfl,zo,by show 2<=sizeLine;lia,fun lb VA=>?_⟩;have s1:=ag (o:=.lst [.str So,.str (" "++z)]) VA;refine⟨l,lb,zs,_,rfl,rfl,s1 _ _ el3,ae,by rw[Yk];show 11+2<=_;lia,fun lc nlc=>?_⟩;have s2:=ag (o:=.lst (zs++[.str So,.str (" "++z)])) nlc;have Mc:=s1.trans s2;have V4:=V3.same Mc;refine⟨_,rfl,d,_,rfl,bj V4.ed V4.v7,lk,us,0,.ref t,rfl,rfl,N0.of V4.ek,aU hu0,t,_,1,.ref lf,rfl,rfl,NY.of (Mc _ _ h1),rfl,lf,rfl,⟨_,N0.of (Mc _ _ h2)⟩,?_⟩;refine eu (K:=K) (a:=lf) (xs:=fu) (fun i ys H'=>NV (aI (aI H3 lb (.lst [.str So,.str (" "++z)])) lc (.lst (zs++[.str So,.str (" "++z)]))) H'/\ys.length=i/\∀y∈ys,dZ y=true) ⟨NV.refl _,rfl,fun z hz=>nomatch hz⟩ (fun i ys H' hi⟨a1,a2,a3⟩=>⟨N0.of (a1 _ _ (Mc _ _ h2)),zo⟩) ?_ ?_
   ·rintro i u ys H5 WW ⟨a1,a2,a3⟩;obtain⟨fl,W2,fp,rfl,Za⟩:=gq h3 WW;refine⟨fp,_,rfl,NY.of (a1 _ _ (Mc _ _ Za)),rfl,_,_,rfl,_,_,rfl,rfl,trivial,dN ?_⟩;refine⟨_,rfl,Nx.mk (JV.mp WW).1 ⟨a1,by rw[JU,a2];rfl,fun y hy=>?_⟩⟩;rcases Ko.mp hy with h|h
    ·exact a3 y h
    ·have:y=.str fl.1:=by simpa using h
     subst this;rfl
   ·rintro ys H5 ⟨a1,a2,a3⟩ L hL;have s5:=a1.trans (ag (o:=.lst ys) hL);refine⟨lc,L,_,ys,rfl,rfl,s5 _ _ ae,ae,?_,fun l2 nl2=>?_⟩
    ·rw[JU,Yk,a2];show 11+2+_<=_;lia
    have s6:=(Mc.trans s5).trans (ag (o:=.lst ((zs++[.str So,.str (" "++z)])++ys)) nl2);refine⟨ln,z,l2,_,rfl,let⟨x,y,w,e⟩:=g3;⟨x,y,w,s6 _ _ e⟩,fun b o hb ne=>s6 _ _ (b3 _ _ hb ne),nl,s6 _ _ el,ae,?_,fun u hu=>?_⟩
    ·rw[JU,JU,Yk,a2];show 11+2+_<=_;lia
    ·rcases Ko.mp hu with h|h
     ·rcases Ko.mp h with h|h
      ·exact(th3 u h).same s6
      ·simp only[J0,Kc,l_]at h;rcases h with rfl|rfl
       ·exact .inl rfl
       ·exact .inl rfl
     ·exact .inl (a3 u h)
  rintro σ H4 ⟨ln,z,l,zs,rfl,g4,b4,nl,el,el4,hl4,th4⟩;refine⟨_,rfl,l,rfl,⟨_,N0.of el4⟩,?_⟩;refine eu (K:=K) (a:=l) (xs:=zs) (fun i ys H'=>NV H4 H'/\ys.length<=i/\∀z∈ys,PB H4 z/\Pl K H4 D z) ⟨NV.refl _,J2 _,fun z hz=>nomatch hz⟩ (fun i ys H' hi⟨a1,a2,a3⟩=>⟨N0.of (a1 _ _ el4),zo⟩) ?_ ?_
  ·rintro i u ys H5 WW ⟨a1,a2,a3⟩;have tu:=th4 u (Kg WW);have hi:=(JV.mp WW).1;refine⟨⟨rfl,trivial⟩,_,rfl,_,rfl,?_⟩;cases hf:dZ u with
   |true=>
    refine .inl ⟨ln,_,rfl,.inl (N0.of (a1 _ _ el)),hf,dm _,_,rfl,?_⟩;cases hin:ky u (al (D.kinds.map Kn.name))with
    |true=>exact be rfl (Nx.mk hi ⟨a1,zo,a3⟩)
    |false=>
     refine bD rfl ⟨_,rfl,Nx.mk hi ⟨a1,by rw[JU];show _+1<=_;lia,fun z hz=>?_⟩⟩;rcases Ko.mp hz with h|h
     ·exact a3 z h
     ·have:z=u:=by simpa using h
      subst this;exact⟨tu,.inl ⟨hf,hin⟩⟩
   |false=>
    obtain⟨b,rfl,rt⟩:=tu.ref (K:=K) hf;obtain⟨b',e',rt'⟩:=(tu.same a1).ref (K:=K) hf;cases e';refine .inr ⟨b,ln,_,rfl,rfl,rt',.inl (N0.of (a1 _ _ el)),_,rfl,im ⟨_,rfl,Nx.mk hi ⟨a1,by rw[JU];show _+1<=_;lia,fun z hz=>?_⟩⟩⟩;rcases Ko.mp hz with h|h
    ·exact a3 z h
    ·have:z=.ref b:=by simpa using h
     subst this;exact⟨tu,.inr ⟨b,rfl,rt⟩⟩
  ·rintro ys H5 ⟨a1,a2,a3⟩ L hL;have s5:=a1.trans (ag (o:=.lst ys) hL);refine q L ys _ (let⟨x,y,z,e⟩:=g4;⟨x,y,z,s5 _ _ e⟩) (fun b o hb ne=>s5 _ _ (b4 _ _ hb ne)) ?_ ae zo fun z hz=>⟨(a3 z hz).1.same s5,?_⟩
   ·cases e:H L with
    |none=>rfl
    |some o=>
     by_cases hLp:L=p
     ·obtain⟨_,_,_,e4⟩:=g4;rw[<-hLp]at e4;have:=s5 _ _ e4;rw[a1 _ _ e4]at hL;cases hL
     ·rw[a1 _ _ (b4 _ _ e hLp)]at hL;cases hL
   ·rcases(a3 z hz).2 with h|⟨b,rfl,rt⟩
    ·exact .inl h
    ·refine .inr ⟨b,rfl,?_⟩;obtain⟨b',e',rt'⟩:=((a3 _ hz).1.same s5).ref (K:=K) rfl;cases e';exact rt'
end
mutual
def wd:PyData->Bool
 |.tuple ds=>decide (ds.length<=1000)&&fU ds
 |_=>true
def fU:List PyData->Bool
 |[]=>true
 |d::r=>wd d&&fU r
end
def Qj:∀{xs:TQ}{ds:List PyData},Od H xs ds->xs.length=ds.length
 |_,_,.nil=>rfl
 |_,_,.cons _ t=>by rw[JX,JX,Qj t]
mutual
def P6:∀{x y:V}{d:PyData}{n:Nat},Td H x d->Td H y d->wd d=true->d.depth<n->Sm H n x y
 |_,_,_,0,_,_,_,hd=>absurd hd (Nat.not_lt_zero _)
 |_,_,_,n+1,.int i,b,_,_=>by cases b;exact .int i
 |_,_,_,n+1,.str s h,b,_,_=>by cases b;exact .str s
 |_,_,_,n+1,.tup (ds:=ds) e t,b,hw,hd=>by
  cases b with
  |tup e' t'=>
   simp only[wd,KQ,t_]at hw;simp only[PyData.depth]at hd;exact .tup e e' (by rw[Qj t];exact hw.1) (QH t t' hw.2 zo)
def QH:∀{xs ys:TQ}{ds:List PyData}{n:Nat},Od H xs ds->Od H ys ds->fU ds=true->PyData.depthAll ds<n->Os H n xs ys
 |_,_,_,_,.nil,b,_,_=>by cases b;exact .nil
 |_,_,_,_,.cons a t,b,hw,hd=>by
  cases b with
  |cons a' t'=>
   simp only[fU,KQ]at hw;simp only[PyData.depthAll]at hd;exact .cons (P6 a a' hw.1 zo) (QH t t' hw.2 zo)
end
def QD(h:∀d∈ds,wd d=true):fU ds=true:=by
 induction ds with
 |nil=>rfl
 |cons d r ih=>simp only[fU,h d JW,ih fun x hx=>h x (JZ _ hx),RB]
def P5:∀e:Ed,wd (qx e)=true
 |.num n=>rfl
 |.fld j=>rfl
 |.pl b n=>rfl
 |.mk b n=>rfl
 |.cell e=>by simp[qx,wd,fU,P5 e]
 |.two o x y=>by simp[qx,wd,fU,P5 x,P5 y]
def Q2(g:Sd):wd (zF g)=true:=by
 cases g<;>simp[zF,wd,fU,P5]
def Q1(e:Ee):wd (Hr e)=true:=by cases e<;>rfl
def Qa:∀{c:Nat}{d:Dd},eD W ps ms fs m c d->wd (Bi d)=true
 |c,.leaf s e,ho=>by
  have h':s.length<=4/\(s.filter Sd.isCell).length<=1/\(∀g∈s,eU W ps ms fs m g)/\ko fs e:=by cases c<;>exact ho
  have h1:fU (s.map zF)=true:=QD fun d hd=>by
   obtain⟨g,_,rfl⟩:=Kr.mp hd;exact Q2 g
  have h2:=h'.1;simp only[Bi,wd,fU,h1,Q1,JY,Bool.and_true,Bool.true_and,JX,Ke];simp only[KQ,t_];lia
 |0,.ite _ _ _,ho=>absurd ho (by simp[eD])
 |c+1,.ite t y n,ho=>by
  have h1:=Qa (c:=c) ho.2.1;have h2:=Qa (c:=c) ho.2.2;simp[Bi,Hs,wd,fU,h1,h2]
def P9(fs:TM)(h:fs.length<=3):wd (.tuple (fs.map fun f=>.tuple [.str f.1,.str f.2]))=true:=by
 simp only[wd,JY,KQ,t_];refine⟨zo,QD fun d hd=>?_⟩;obtain⟨z,_,rfl⟩:=Kr.mp hd;rfl
def Q4(hD:iU D fn gt)(hx:x∈D.kinds):wd (Aq x)=true:=by
 obtain⟨c,k,hm,hk⟩:=hD.kl;have h1:=Qa (hk x hx).dd;have h2:=P9 x.fs ((eV hD).kf x hx).l3;unfold Aq;simp only[wd]at h2;simp only[wd,fU,h1,h2,Bool.and_true,Bool.true_and];rfl
def Q3(hD:iU D fn gt)(hx:x∈D.kinds):(Aq x).depth<=20:=by
 obtain⟨c,k,hm,hk⟩:=hD.kl;have Xr:=ki hm;have h5:=sf (hk x hx).dd;have h6:PyData.depthAll (x.fs.map fun f=>PyData.tuple [.str f.1,.str f.2])<=1:=ij fun d hd=>by
  obtain⟨f,hf,rfl⟩:=Kr.mp hd;simp[PyData.depth,PyData.depthAll]
 simp only[Aq,PyData.depth,PyData.depthAll];lia
section
def OO(hl:l.length<=1000)(ha:H a=some (.tup (al l)))(hb:H b=some (.tup (al l))):Sm H (n+2) (.ref a) (.ref b):=by
 refine .tup ha hb (by unfold al;rw[JY];exact hl) ?_;clear ha hb hl;induction l with
 |nil=>exact .nil
 |cons x r ih=>exact .cons (.str x) ih
def Qk:Sm H (n+1) (cD D) (cD D):=by
 unfold cD;cases D.gates with
 |nil=>exact .non
 |cons z r=>exact .str z
def Q7(hD:iU D fn gt)(hx:x∈D.kinds)(h:OI H u x)(h':OI H u' x):Sm H 21 u u':=P6 (h.td hD hx) (h'.td hD hx) (Q4 hD hx) (Nat.lt_succ_of_le (Q3 hD hx))
def Q6(hD:iU D fn gt)(hx:x∈D.kinds)(h:Pp H x.dd u)(h':Pp H x.dd u'):Sm H 23 u u':=by
 obtain⟨c,k,hm,hk⟩:=hD.kl;have Xr:=ki hm;have h5:=sf (hk x hx).dd;exact P6 (h.td (hk x hx).dd) (h'.td (hk x hx).dd) (Qa (hk x hx).dd) zo
def Q5(hD:iU D fn gt)(hx:x∈D.kinds)(ha:H a=some (.tup us))(hb:H b=some (.tup UP))(h:Paired (Oh H) us x.fs)(h':Paired (Oh H) UP x.fs):Sm H 23 (.ref a) (.ref b):=by
 have so:∀z∈dq,kD z=true:=by decide +kernel
 have ok:∀f∈x.fs,kD f.1=true/\kD f.2=true:=fun f hf=>⟨dS ((ot hD hx).f f hf).1,so _ (mL hD hx f hf)⟩;have h6:PyData.depthAll (x.fs.map fun f=>PyData.tuple [.str f.1,.str f.2])<=1:=ij fun d hd=>by
  obtain⟨f,hf,rfl⟩:=Kr.mp hd;simp[PyData.depth,PyData.depthAll]
 refine P6 (.tup ha (kW h ok)) (.tup hb (kW h' ok)) (P9 x.fs ((eV hD).kf x hx).l3) ?_;simp only[PyData.depth];lia
def Qy(hD:iU D fn gt):∀{us UP:TQ}{l:List Kn},(∀x∈l,x∈D.kinds)->Paired (OI H) us l->Paired (OI H) UP l->Os H 21 us UP
 |_,_,_,_,.nil,h'=>by cases h';exact .nil
 |_,_,_,hl,.cons h t,h'=>by
  cases h' with
  |cons UT t'=>exact .cons (Q7 hD (hl _ JW) h UT) (Qy hD (fun x hx=>hl x (JZ _ hx)) t t')
def Qh(hD:iU D fn gt)(h1:Ol H v D)(h2:Ol H u D):Sm H 23 v u:=by
 obtain⟨p,pp,pm,pk,us,rfl,e,e1,e2,e3,hk⟩:=h1;obtain⟨p',pp',Z5,pk',UP,rfl,e',e1',Zm,e3',hk'⟩:=h2;have FO:=eV hD;have k8:=FO.k8;have p4:=FO.p4;have m3:=FO.m3;have l1:=hk.length;refine .tup e e' (by show 7<=1000;decide) (.cons (.int _) (.cons (.int _) (.cons (.int _) (.cons (OO zo e1 e1') (.cons (OO zo e2 Zm) (.cons Qk (.cons (.tup e3 e3' zo (Qy hD (fun _ h=>h) hk hk')) .nil)))))))
def QJ(hD:iU D fn gt)(ha:H a=some (.tup [.int D.width,.int D.cells,.int D.depth,.ref pp,.ref pm,cD D]))(hb:H b=some (.tup [.int D.width,.int D.cells,.int D.depth,.ref pp',.ref Z5,cD D]))
  (e1:H pp=some (.tup (al D.places))) (e2:H pm=some (.tup (al D.marks))) (e1':H pp'=some (.tup (al D.places))) (Zm:H Z5=some (.tup (al D.marks))):Sm H 23 (.ref a) (.ref b):=by
 have FO:=eV hD;have p4:=FO.p4;have m3:=FO.m3;exact .tup ha hb (by show 6<=1000;decide) (.cons (.int _) (.cons (.int _) (.cons (.int _) (.cons (OO zo e1 e1') (.cons (OO zo e2 Zm) (.cons Qk .nil))))))
end
end L3
namespace L2
open PySem
def wt{X:Cx}{params:Arguments}{body:Expr}{sc:Scope}{pos:Pos}{c P:Ts}{ps fr:TH}{ix:TJ}{qual:Str}(N:TH)(sc0:Scope)(L:uC X.base X.mg c P)(hok:jA N sc0 sc ps fr ix=true)(Vw:X.env.code=.ref c:=by rfl)(hq:X.env.qual++"<lambda>"=qual:=by rfl)(eN:X.N=N:=by rfl)(eS:X.env.scope=sc0:=by rfl)(XV:defaultsOf params X.env=([],[]):=by rfl):PE X (.Lambda params body sc pos) (HB X P qual params body sc):=by
 subst eN eS;exact Fx L Vw hok hq XV
end L2
namespace L3
open PySem L2
abbrev Ic:TH:=[Sf,R5,R6,SH,S4,Sn,R7,Si,SD]
abbrev qL:Str:="_law_right.<locals>.<lambda>"
def A3(p T:Ts)(H H':Hp):Prop:=∀b o,H b=some o->b≠p->b≠T->H' b=some o
inductive Da(C:Ts)(T:Ts)(vs:TQ)(H:Hp)(Q:VK)(Z3:XK):Prop
 |mk(v d p D gt kvs lp lm lk us fn:_):vs=[v,.ref d,.ref p]->N6 H p->Oq C H v D->PL H d D gt kvs lp lm lk us->iU D fn gt->Og H T qL->(∀H',N6 H' p->A3 p T H H'->Og H' T qL->Q (.bl true) H')->Da C T vs H Q Z3
section
def P3:av [Sf,R5,R6,SH,S4,Sn,R7,Si,SD] [Sf,R5,R6] (ak cL):=cV zk
def HM(n:Nat):∀p∈PySem.cellsFrom n (ak cL).names [],(PySem.cellsFrom n (ak cL).names []).lookup p.1=some p.2:=by
 have e:PySem.cellsFrom n (ak cL).names []=([(Sf,n)]:List (Str×Ts)):=rfl;rw[e];intro p hp;have:p=((Sf:Str),n):=by simpa using hp
 subst this;rfl
def A4(nn:∀b o,cs.lookup b=some o->H7 b=none)(s8:NV (trkL H7 cs) H8):NV H7 (untL H8 cs):=fun b o e=>by
 rw[bT (j9 nn e)];exact s8 _ _ (cb nn e)
def qr(h:Og H T qL)(g:N6 H p)(b:Of p H H'):Og H' T qL:=by
 obtain⟨ps,e,tr,k⟩:=h;refine⟨ps,b _ _ e (bv g e (fun _ _ _ z=>by cases z)),tr,fun pos v hv=>?_⟩;obtain⟨d,e1,e2⟩:=k pos v hv;exact⟨d,e1,b _ _ e2 (bv g e2 (fun _ _ _ z=>by cases z))⟩
def PB.bt(h:PB H z)(t:Og H T qL)(b:Bt T H H'):PB H' z:=by
 obtain⟨ps,et,_⟩:=t;rcases h with h|⟨a,e,⟨n,o,h|h⟩|⟨kvs,h⟩⟩
 ·exact .inl h
 ·exact .inr ⟨a,e,.inl ⟨n,o,.inl (b _ _ h (dz h et (by nofun)))⟩⟩
 ·exact .inr ⟨a,e,.inl ⟨n,o,.inr (b _ _ h (dz h et (by nofun)))⟩⟩
 ·exact .inr ⟨a,e,.inr ⟨kvs,b _ _ h (dz h et (by nofun))⟩⟩
def Pl.th(h:Pl K H D z)(t:PB H' z):Pl K H' D z:=by
 rcases h with h|⟨a,rfl,_⟩
 ·exact .inl h
 ·obtain⟨b,e,r⟩:=t.ref (K:=K) rfl;exact .inr ⟨b,e,r⟩
def Oq.k2(h:Oq C H v D)(t:Og H T qL)(b:Bt T H H'):Oq C H' v D:=by
 obtain⟨ps,et,_⟩:=t;obtain⟨a,dx,pp,pm,pn,pk,us,e,h1,h2,h3,h4,h5,h6⟩:=h;have k:N9 H H':=fun x ys e=>b _ _ e (dz e et (by nofun));exact⟨a,dx,pp,pm,pn,pk,us,e,b _ _ h1 (dz h1 et (by nofun)),k _ _ h2,k _ _ h3,k _ _ h4,k _ _ h5,bF (fun _ _ h=>OI.kt k h) h6⟩
def Ol.k2(h:Ol H v D)(t:Og H T qL)(b:Bt T H H'):Ol H' v D:=by
 obtain⟨ps,et,_⟩:=t;exact h.kt fun x ys e=>b _ _ e (dz e et (by nofun))
def A5{m:Str}{Z0:Sp}{fM:Ts}{fdM:TB}(Tb:Tc K C)(MM:qG K C m fM)(FM:NZ P w K mg base (kX P w) 5 fM fdM [R8,So] Z0)(BM:Oa K fdM [R8,So] [])(hn:∀a b c d e f g h,(Cf a b c d e f g h).lookup m=none)
  (UC:∀v D z H Q E,Oq C H v D->Pl K H D z->mY cK z H E->Z0 [v,z] H Q E) {X:Cx} {σ:St} {H7:Hp} {cs:List (Ts×Obj)} {f:Ts} {params:Arguments} {sc:Scope} {p1 p2 p3 p4:Pos} {v z:V} {D:Fm} {Q:VK}
  (L7:we X H7 f qL params (.Call (.Attribute (.Name Sf p1) m p2) [.Name Sw p3] [] p4) sc) (CO:ik X σ cs) (nn:∀b o,cs.lookup b=some o->H7 b=none) (hok:jA X.N X.env.scope sc [Sw] [Sf] [0]=true) (XQ:mW sc [Sw] [Sf]=true) (hv:σ[0]?=some (some v))
  (U0:∀(cl:List (Str×Ts))(pm cd ct:Tr)(us:List Tr),us.length=([Sw]:TH).length->bindArgs (PySem.W.kla_fn "<lambda>" qL params (.Call (.Attribute (.Name Sf p1) m p2) [.Name Sw p3] [] p4) sc cl pm cd ct) ⟨us,[]⟩=pure (([Sw]:TH).zip us))
  (tv:Oq C H7 v D) (tz:PB H7 z) (nz:Pl K H7 D z) (q:∀H9,NV H7 H9->Q (.bl true) H9)
  (hpe:∀(c:Ts)(cl:List (Str×Ts))(A:Tz)(outer:List Env)(s:Tu)(H:Hp)(E:XK),N1 5 (A.deeper (ql qL sc s.heap.objs.size f c cl))->PE ((C5 P w K mg base (([Sw]:TH)++([Sf]:TH)) qL sc f c cl A outer s H E).esc fun _=>E) (.Call (.Attribute (.Name Sf p1) m p2) [.Name Sw p3] [] p4) (uD C m Z0 [] (fun _=>E) (lA 1) (uR (lA 0) yc))) :
  il P w K mg base cK 6 [.ref f,z] (trkL H7 cs) (fun v H2=>iu H2 cs/\Q v (untL H2 cs)) E0:=by
 obtain⟨o,fdL,sp,h1,h2,F1,B1,h5⟩:=FE (P:=P) (w:=w) (K:=K) (mg:=mg) (base:=base) (k:=5) (vC:=[v]) (te:=fun E=>uD C m Z0 [] (fun _=>E) (lA 1) (uR (lA 0) yc)) L7 CO nn hok XQ (fun j i h=>by
   cases j with
   |zero=>
    have:i=0:=by simpa using h.symm
    subst this;exact⟨v,rfl,hv⟩
   | succ j=>simp at h) rfl U0 hpe
 have tz':PB (trkL H7 cs) z:=tz.same fun b o e=>cb nn e;refine⟨f,z,o,fdL,[Sw],sp,rfl,h1,h2,F1,B1,tz'.thing,fun Q' E' hE=>h5 [z] Q' E' rfl ?_,fun H8 s8=>⟨fun b o e=>s8 _ _ (kY e),q _ (A4 nn s8)⟩⟩;obtain⟨a,dx,pp,pm,pn,pk,us,ev,ho,_⟩:=id tv;refine⟨v,rfl,a,dx,_,ev,ho,hn _ _ _ _ _ _ _ _,z,rfl,UC v D z H7 _ _ tv nz fun e d H' s' ne xa nnH=>hE e d (trkL H' cs) (fun b o hb=>?_) ?_ ?_⟩
 ·cases qq:cs.lookup b with
  |some o'=>
   rw[kY qq]at hb⊢;exact hb
  |none=>
   rw[bX qq]at hb⊢;exact s' _ _ hb
 ·rw[bX (j9 nnH xa.1)];exact ne
 ·exact xa.same fun b o e=>cb nnH e
def HN:([Sw]:TH).Nodup:=by decide +kernel
inductive A6(v:V)(d:Ts)(p:Ts)(H:Hp)(D:Fm)(σ:St)(H':Hp):Prop
 |mk(u1 u2:_):σ=[some v,some (.ref d),some (.ref p),some u1,some u2,none,none,none,none]->NV H H'->Ol H' u1 D->A6 v d p H D σ H'
inductive A7(v:V)(d:Ts)(p:Ts)(H:Hp)(D:Fm)(σ:St)(H':Hp):Prop
 |mk(u1 u2 v5 v6 v7:_):σ=[some v,some (.ref d),some (.ref p),some u1,some u2,v5,v6,v7,none]->NV H H'->Ol H' u1 D->A7 v d p H D σ H'
inductive A8(v:V)(d:Ts)(p:Ts)(T:Ts)(H:Hp)(C:Ts)(D:Fm)(σ:St)(H':Hp):Prop
 |mk(u1 u2 v5 v6 v7 v8:_):σ=[some v,some (.ref d),some (.ref p),some u1,some u2,v5,v6,v7,v8]->N6 H' p->A3 p T H H'->Og H' T qL->Oq C H' v D->Ol H' u1 D->A8 v d p T H C D σ H'
def HP{f:Ts}{fd:TB}(F:Ob K "_law_right" "_law_right" cL f fd)(hc:fd.code=.ref c)(L:uC base mg c T)(B:Bl mg)(Tb:Tc K C)(TX:Xs K mg R fR cK fK cT cN)(TO:Fn P w K mg base "_law_told" 1 [R5] li)(SM:Fn P w K mg base "_law_same" 24 [Sf,SH] (Pa 23))
  (NK:Fn P w K mg base "_law_no_kinds" 2 [R5,R6] (ke K)) (RF:Fn P w K mg base "_law_refused" 7 ["_law_ask",SD] (il P w K mg base cK 6)) (DE:qp P w K mg base C "deed" 5 [R8,So] (kZ K C cK)) (FO:qp P w K mg base C "fields_of" 5 [R8,So] (wo K C cK)) (TD:ir P w K mg base C "told" 1 [R8] (ia C)) :
  NZ P w K mg base bZ 25 f fd [Sf,R5,R6] (Da C T):=by
 refine F.okC hc P3 (fun vs H Q E h=>?_) (fun A outer s H vs Q E hr h=>?_)
 ·obtain⟨v,d,p,D,gt,kvs,lp,lm,lk,us,fn,rfl,_⟩:=h;rfl
 ·obtain⟨v,d,p,D,gt,kvs,lp,lm,lk,us,fn,rfl,hp,hT,hV,hD,WO,q⟩:=h;have Ve:N1 24 _:=hr;obtain⟨fD,fdD,MD,FD,BD⟩:=DE;obtain⟨fF,fdF,MF,FF,BF⟩:=FO;obtain⟨fT,Yu,MT,FT,BT⟩:=TD;obtain⟨fr,fdr,hmr,Y4,hbr,FR⟩:=RF;have Zv:=FT.imp v0;have FD0:=FD.calm;have FF0:=FF.calm;refine⟨_,af (bL (i:=3) P3.nd (ar TO hr.m rfl (aa (pv 1) ac)))
   (af (bL (i:=4) P3.nd (ay (aa (bS (pv 0) rfl) (aa (bS (pv 0) rfl) (aa (bS (pv 0) rfl) (aa (bS (pv 0) rfl) (aa (bS (pv 0) rfl) (aa (bS (pv 0) rfl) ac))))))))
   (bf (A6 v d p H D) (aQ (PW.pt (dP (cr (bU (ar SM Ve rfl (aa (pv 4) (aa (dC D6 (pv 3) i7 (cW ah)) ac)))))
     (c8 (cr (bU (ar SM Ve rfl (aa (bS (pv 0) rfl) (aa (aV bh (by rfl) B.tuple br (aa (dQ (N':=[Sw]) (ix:=[none]) (sc0:=ak cL) (N:=[Sf,R5,R6,SH,S4,Sn,R7,Si,SD]) rfl zk (iz (ax aJ (pv 3) ah))
      (fun C' cl s H fp=>cG (i:=0) HN) (fun _ _ _ _ _=>dM) (fun C' cl s H fp=>ax (kH (K:=K) rfl) (pv 0) ah (fun _ _=>rfl))) ac)) ac)))))))) (aj (aq fw)) aB)
   (bf (A7 v d p H D) (dB h_ rfl (iz (ax aJ (pv 3) ah)) (dA rfl (aw (cG (i:=5) P3.nd) (aw (cG (i:=6) P3.nd) (aw (cG (i:=7) P3.nd) bB))))
     (aj (aQ (PW.pt (dP (cr (bU (ar SM Ve rfl (aa (uU (pv 0) Tb.cl MD FD0 hr.m BD .nil iq (aa (pv 5) ac)) (aa (pv 7) ac)))))
      (c8 (cr (bU (ar SM Ve rfl (aa (uU (pv 0) Tb.cl MF FF0 hr.m BF .nil iq (aa (pv 5) ac)) (aa (pv 6) ac)))))))) (aj (aq fw)) aB)))
   (bf (A8 v d p T H C D) (dB h_ rfl (de (ar NK hr.m rfl (aa (pv 1) (aa (pv 2) ac)))) (cG (i:=8) P3.nd)
     (af (aQ (cr (bU (sh FR hr.m rfl hmr Y4 hbr (fun _=>rfl) (HM _) (aa (wt (ps:=[Sw]) (fr:=[Sf]) (ix:=[0]) (qual:=qL) Ic (ak cL) L zk) (aa (pv 8) ac))))) (aj (aq fw)) aB)
     (aj (aQ (cr (bU (sh FR hr.m rfl hmr Y4 hbr (fun _=>rfl) (HM _) (aa (wt (ps:=[Sw]) (fr:=[Sf]) (ix:=[0]) (qual:=qL) Ic (ak cL) L zk) (aa (pv 8) ac))))) (aj (aq fw)) aB))))
   (aj (aq (ar SM Ve rfl (aa (aN (pv 0)) (aa (pv 3) ac))))))))),?_⟩
  obtain⟨a,dx,pp,pm,pn,pk,ks,ev,ho,VH,Wl,VI,Ws,hks⟩:=id hT;refine⟨_,rfl,d,D,gt,kvs,lp,lm,lk,us,fn,rfl,hV,hD,fun u1 H1 s1 t1=>?_⟩;have TR:=s1 _ _ ho;refine⟨_,rfl,a,C,dx,_,_,ev,TR,Tb.cl,Tb.na R_ zk,rfl,_,rfl,a,C,dx,_,_,ev,TR,Tb.cl,Tb.na Se zk,rfl,_,rfl,a,C,dx,_,_,ev,TR,Tb.cl,Tb.na Sh zk,rfl,_,rfl,a,C,dx,_,_,ev,TR,Tb.cl,Tb.na Sa zk,rfl,_,rfl,a,C,dx,_,_,ev,TR,Tb.cl,Tb.na Sg zk,rfl,_,rfl,a,C,dx,_,_,ev,TR,Tb.cl,Tb.na Sx zk,rfl,N5,fun th nth=>?_⟩;have s2:=s1.trans (ag (o:=.tup [.int D.width,.int D.cells,.int D.depth,.ref pp,.ref pm,cD D]) nth);have t2:=t1.kt (ao (ag (o:=.tup [.int D.width,.int D.cells,.int D.depth,.ref pp,.ref pm,cD D]) nth));refine⟨?_,?_⟩;rotate_left
  ·obtain⟨p1,pp1,pm1,Xj,YC,VY,e,e1,e2,e3,hk⟩:=id t2;refine⟨_,rfl,_,rfl,_,rfl,p1,_,VY,NY.of e,(by show¬(HT.sIx 7 0 none=0/\HT.sIx 7 7 (some 6)=7);decide),fun sp nsp=>?_⟩;have s3:=ag (o:=.tup [.int D.width,.int D.cells,.int D.depth,.ref pp1,.ref pm1,cD D]) nsp;have YI:=s2.trans s3;refine⟨.ref th,.ref sp,rfl,QJ hD (s3 _ _ ae) ae (YI _ _ VH) (YI _ _ Wl) (s3 _ _ e1) (s3 _ _ e2),fun H4 s4=>⟨true,rfl,bK ?_⟩⟩;have X9:=s3.trans s4;have YH:=s2.trans X9;refine⟨_,rfl,a,C,dx,_,_,ev,YH _ _ ho,Tb.cl,Tb.na SC zk,rfl,_,rfl,p1,_,6,.ref Xj,VY,rfl,NY.of (X9 _ _ e),rfl,Xj,rfl,⟨_,NY.of (X9 _ _ e3)⟩,?_⟩;have kl:=hk.length;have k8:=(eV hD).k8;walk_at "w"
   refine sQ (K:=K) (a:=Xj) (xs:=YC) (fun i ys H'=>NV H4 H'/\ys=al ((D.kinds.take i).map Kn.name)) ⟨NV.refl _,rfl⟩ (fun i ys H' hi⟨a1,a2⟩=>⟨NY.of (a1 _ _ (X9 _ _ e3)),by rw[a2];unfold al;rw[JY,JY,J9];lia⟩) ?_ ?_
   ·rintro i u ys H5 WW ⟨a1,rfl⟩;obtain⟨x,hx,hK⟩:=gq hk WW;obtain⟨tk,tf,b,fu,rfl,h1,_⟩:=hK;refine⟨trivial,dN ?_⟩;refine⟨_,rfl,tk,_,_,_,rfl,rfl,NY.of (a1 _ _ (X9 _ _ h1)),rfl,Nx.mk (JV.mp WW).1 ⟨a1,?_⟩⟩;unfold al;rw[Rg,hx];simp
   ·rintro ys H5 ⟨a1,rfl⟩ L1 hL1;have s5:=a1.trans (ag (o:=.lst (al ((D.kinds.take YC.length).map Kn.name))) hL1);refine⟨L1,_,rfl,.inl ⟨N0.of ae,fun tn ntn=>?_⟩⟩;have s6:=s5.trans (ag (o:=.tup (al ((D.kinds.take YC.length).map Kn.name))) ntn);refine⟨.ref pn,.ref tn,rfl,OO (n:=21) (l:=D.kinds.map Kn.name) (by rw[JY];lia) (YH.trans s6 _ _ VI) (by rw[ae,kl,Ky]),fun H7 s7=>⟨true,rfl,bK ?_⟩⟩;exact⟨u1,.ref th,rfl,(YH.trans s6).trans s7,t2.kt (ao ((X9.trans s6).trans s7))⟩
  rintro σ H3 ⟨u1,u2,rfl,s3,t3⟩;refine⟨?_,?_⟩;rotate_left
  ·obtain⟨p1,pp1,pm1,Xj,YC,VY,e,e1,e2,e3,hk⟩:=id t3;refine⟨_,rfl,p1,_,6,.ref Xj,VY,rfl,NY.of e,rfl,Xj,rfl,⟨_,NY.of e3⟩,?_⟩;refine kr (K:=K) (a:=Xj) (xs:=YC) (fun i σ H'=>∃v5 v6 v7:Option V,σ=[some v,some (.ref d),some (.ref p),some u1,some u2,v5,v6,v7,none]/\NV H3 H') ⟨_,_,_,rfl,NV.refl _⟩ (fun i σ H' _⟨_,_,_,_,s⟩=>NY.of (s _ _ e3)) ?_ ?_
   ·rintro i u σ H4 hu ⟨v5,v6,v7,rfl,s4⟩;obtain⟨x,hx,hK⟩:=gq hk hu;obtain⟨tk,tf,b,fu,rfl,h1,h2,h3,h4⟩:=hK;have VG:x∈D.kinds:=Kg hx;have T4:=hT.same (s3.trans s4);refine⟨tk,_,rfl,NY.of (s4 _ _ h1),rfl,_,_,rfl,_,_,rfl,_,_,rfl,rfl,?_⟩;obtain⟨a4,Va,_,_,_,_,_,ev4,Uv,_⟩:=id T4;refine⟨_,rfl,a4,Va,_,ev4,Uv,rfl,_,rfl,v,D,.str x.name,rfl,T4,.inl ⟨x,rfl,eV hD,VG,fun b' Ub=>?_⟩⟩;refine⟨_,rfl,b',b,rfl,Q6 hD VG Ub (h4.kt (ao s4)),fun H5 s5=>⟨true,rfl,bK ?_⟩⟩;have X8:=s4.trans s5;have T5:=hT.same (s3.trans X8);obtain⟨a5,VO,_,_,_,_,_,ev5,UM,_⟩:=id T5;refine⟨_,rfl,a5,VO,_,ev5,UM,rfl,_,rfl,v,D,.str x.name,rfl,T5,.inl ⟨x,rfl,eV hD,VG,fun tf' UP e' TU=>?_⟩⟩;refine⟨_,rfl,.ref tf',.ref tf,rfl,Q5 hD VG e' (X8 _ _ h2) TU (bF (fun _ _ h=>Oh.kt (ao X8) h) h3),fun H6 s6=>⟨true,rfl,bK ?_⟩⟩;exact⟨_,_,_,rfl,X8.trans s6⟩
   ·rintro σ H4 ⟨v5,v6,v7,rfl,s4⟩;exact⟨u1,u2,v5,v6,v7,rfl,s3.trans s4,t3.kt (ao s4)⟩
  rintro σ H4 ⟨u1,u2,v5,v6,v7,rfl,s4,t4⟩;refine⟨?_,?_⟩;rotate_left
  ·have g4:N6 H4 p:=let⟨x,y,z,e⟩:=hp;⟨x,y,z,s4 _ _ e⟩;refine⟨_,rfl,_,rfl,d,p,D,gt,kvs,lp,lm,lk,us,fn,rfl,g4,hV.same s4,hD,fun l zs H5 g5 b5 nl el hz th=>?_⟩;refine⟨l,rfl,⟨_,N0.of el⟩,?_⟩;have tab4:Og H4 T qL:=WO.bt s4;have UF:Og H5 T qL:=qr tab4 g4 b5;have X4:Oq C H5 v D:=(hT.same s4).but g4 b5;have td5:Ol H5 u1 D:=t4.kt (Hu g4 b5);have lT:l≠T:=by
    obtain⟨ps,e,_⟩:=UF;exact dz el e (by nofun)
   have pT:p≠T:=by
    obtain⟨ps,e,_⟩:=UF;obtain⟨x,y,z,e'⟩:=g5;exact dz e' e (by nofun)
   refine lC (K:=K) (a:=l) (xs:=zs) (fun i σ H'=>∃v8:Option V,σ=[some v,some (.ref d),some (.ref p),some u1,some u2,v5,v6,v7,v8]/\Bt T H5 H'/\Og H' T qL) ⟨_,rfl,fun _ _ e _=>e,UF⟩ (fun i σ H' _⟨_,_,b,_⟩=>N0.of (b _ _ el lT)) ?_ ?_
   ·rintro i z σ H6 hz6 ⟨v8,rfl,Yx,XG⟩;obtain⟨tz,nz⟩:=th z (Kg hz6);refine⟨XG,fun f1 H7 nf1 tab7 L7 bt7=>⟨_,rfl,fun cs CO nn=>?_⟩⟩;have X0:Bt T H5 H7:=fun b o e ne=>bt7 _ _ (Yx _ _ e ne) ne;have tz7:=tz.bt UF X0;refine A5 Tb MD FD BD (fun _ _ _ _ _ _ _ _=>rfl) (fun v D z H Q E a b c=>⟨v,D,z,rfl,a,.inr ⟨b,c⟩⟩) L7 CO nn (by show jA Ic (ak cL) _ [Sw] [Sf] [0]=true;decide +kernel) zk rfl (fun _ _ _ _ us hl=>match us,hl with|[_],_=>rfl) (X4.k2 UF X0) tz7 (nz.th tz7) (fun H9 s9=>?_) (fun c cl A outer s H E hr=>jB (pv 1) Tb.cl MD FD hr BD .nil fS (aa (pv 0) ac));refine⟨true,rfl,bK ?_⟩;have tab9:Og H9 T qL:=tab7.bt s9;have bt59:Bt T H5 H9:=fun b o e ne=>s9 _ _ (X0 _ _ e ne);refine⟨tab9,fun f2 H10 nf2 ZO L10 bt10=>⟨_,rfl,fun cs CO nn=>?_⟩⟩;have Wg:Bt T H5 H10:=fun b o e ne=>bt10 _ _ (bt59 _ _ e ne) ne;have Zw:=tz.bt UF Wg;refine A5 Tb MF FF BF (fun _ _ _ _ _ _ _ _=>rfl) (fun v D z H Q E a b c=>⟨v,D,z,rfl,a,.inr ⟨b,c⟩⟩) L10 CO nn (by show jA Ic (ak cL) _ [Sw] [Sf] [0]=true;decide +kernel) zk rfl (fun _ _ _ _ us hl=>match us,hl with|[_],_=>rfl) (X4.k2 UF Wg) Zw (nz.th Zw) (fun H11 VE=>?_) (fun c cl A outer s H E hr=>jB (pv 1) Tb.cl MF FF hr BF .nil fS (aa (pv 0) ac));exact⟨true,rfl,bK ⟨_,rfl,fun b o e ne=>VE _ _ (Wg _ _ e ne),ZO.bt VE⟩⟩
   ·rintro σ H6 ⟨v8,rfl,Yx,XG⟩;refine⟨u1,u2,v5,v6,v7,v8,rfl,let⟨x,y,z,e⟩:=g5;⟨x,y,z,Yx _ _ e pT⟩,fun b o hb n1 n2=>Yx _ _ (b5 _ _ (s4 _ _ hb) n1) n2,XG,X4.k2 UF Yx,td5.k2 UF Yx⟩
  rintro σ H5 ⟨u1,u2,v5,v6,v7,v8,rfl,g5,b5,tb5,X4,td5⟩;obtain⟨a',Zn,_,_,_,_,_,ev',U4,_⟩:=id X4;refine⟨_,rfl,a',Zn,C,fT,_,Yu,1,[R8],_,ev',U4,rfl,Tb.cl,MT,Zv,hr.m,BT,?_⟩;refine⟨v,D,by rw[ev'],X4,fun u H6 s6 t6=>⟨_,rfl,u,u1,rfl,Qh hD t6 (td5.kt (ao s6)),fun H7 s7=>?_⟩⟩;have s67:=s6.trans s7;exact q H7 (let⟨x,y,z,e⟩:=g5;⟨x,y,z,s67 _ _ e⟩) (fun b o hb n1 n2=>s67 _ _ (b5 _ _ hb n1 n2)) (tb5.bt s67)
end
def sw(hD:iU D fn gt):(eR D).length<=20000/\(TK.toks (eR D)).length<=1500/\pH ((TK.toks (eR D)).map S) D/\wY D:=by
 have tkF:=CF hD;have W2:=mJ hD;have U2:=Ag tkF W2;have ht:=xm tkF;refine⟨zo,by rw[ht,JY];exact mJ hD,?_,eV hD⟩;rw[ht,rN];exact CJ hD
section
def FN(t:Og H T qL)(b:Bt T H H')(h:N0 K H a xs):N0 K H' a xs:=by
 obtain⟨ps,et,_⟩:=t;rcases h with(h|⟨o,h⟩)|h
 ·exact .inl (.inl (b _ _ h (dz h et (by nofun))))
 ·exact .inl (.inr ⟨o,b _ _ h (dz h et (by nofun))⟩)
 ·exact .inr h
def PL.bt(h:PL H d D gt kvs lp lm lk us)(et:H T=some (.tbl ps))(b:Bt T H H'):PL H' d D gt kvs lp lm lk us:=
 ⟨b _ _ h.ed (dz h.ed et (by nofun)),h.v1,h.v2,h.v3,h.v4,h.v5,h.v6,h.v7,b _ _ h.ep (dz h.ep et (by nofun)),b _ _ h.em (dz h.em et (by nofun)),b _ _ h.ek (dz h.ek et (by nofun)),bF (fun _ _ h'=>Qt.kp (fun x ys e=>b _ _ e (dz e et (by nofun))) (fun x us _ fs e _=>b _ _ e (dz e et (by nofun))) h') h.ks⟩
def A9(T:Ts)(H H':Hp):Hp:=fun x=>if x=T then H T else H' x
def Db(b:A3 p T H H'):Of p H (A9 T H H'):=fun x o e ne=>by
 unfold A9;by_cases h:x=T
 ·rw[g_ h,<-h];exact e
 ·rw[f_ h];exact b _ _ e ne h
def FP:Bt T (A9 T H H') H':=fun x o e ne=>by
 unfold A9 at e;rw[f_ ne]at e;exact e
def PL.k2(h:PL H d D gt kvs lp lm lk us)(g:N6 H p)(t:Og H T qL)(b:A3 p T H H'):PL H' d D gt kvs lp lm lk us:=by
 obtain⟨ps,et,_⟩:=t;exact(h.but g (Db b)).bt (T:=T) (ps:=ps) (by unfold A9;rw[g_ rfl];exact et) FP
def Oq.k3(h:Oq C H v D)(g:N6 H p)(t:Og H T qL)(b:A3 p T H H'):Oq C H' v D:=by
 obtain⟨ps,et,_⟩:=t;obtain⟨a,dx,pp,pm,pn,pk,us,e,h1,h2,h3,h4,h5,h6⟩:=h;have k:N9 H H':=fun x ys e=>b _ _ e (bv g e (fun _ _ _ z=>by cases z)) (dz e et (by nofun));exact⟨a,dx,pp,pm,pn,pk,us,e,b _ _ h1 (bv g h1 (fun _ _ _ z=>by cases z)) (dz h1 et (by nofun)),k _ _ h2,k _ _ h3,k _ _ h4,k _ _ h5,bF (fun _ _ h=>OI.kt k h) h6⟩
end
def uK(K:ZF)(T:Ts):Sp:=fun vs H Q _=>∃(a:Ts)(ns:List Int),vs=[.ref a]/\N0 K H a (ns.map V.int)/\ns.length<=63/\Og H T qL/\∀H',Q (.bl true) H'
section
def OD:av [SB,SZ,R6,R5,"_law_beside",Sf,"_law_other","_law_again"] [SB] (ak wN):=cV zk
def Dc(F:Ob K "law" "law" wN f fd)(B:Bl mg)(Tb:Tc K C)(CL:Fn P w K mg base "_law_cell" 1 [SB,SZ] (tj K))(ST:Fn P w K mg base "_law_stream" 1 [S1] lY)(LT:Fn P w K mg base "_law_table" n [R6,"_law_most"] mF)
  (TX:Fn P w K mg base "_law_text" n [R5] qh) (RT:Fn P w K mg base "read_table" n [SQ] (EY C)) (LR:Fn P w K mg base "_law_right" 25 [Sf,R5,R6] (Da C T)) (SM:Fn P w K mg base "_law_same" 24 [Sf,SH] (Pa 23)) (TO:Fn P w K mg base "_law_told" 1 [R5] li)
  (TD:ir P w K mg base C "told" 1 [R8] (ia C)) (hn:25<=n):NZ P w K mg base bZ (n+1) f fd [SB] (uK K T):=by
 have ZZ:=OD
 walk_at "o"
 ·obtain⟨l,ns,rfl,hS,hl,WO,q⟩:=h;have LU:N1 1 _:=hr.mono zo;have Ve:N1 24 _:=hr.mono zo;have ZC:N1 25 _:=hr.mono hn;obtain⟨fT,Yu,MT,FT,BT⟩:=TD;have Zv:=FT.imp v0;refine⟨_,af (dB h_ rfl (gR rfl B.range (aa (aC (nE rfl) (by rfl) B.max PyProof.Rows.boot_max (aa ah (aa (aC (nF rfl) (by rfl) B.min PyProof.Rows.boot_min (aa (aC aY (by rfl) B.len Kt (aa (pv 0) ac)) (aa ah ac))) ac))) ac)) (cG (i:=1) OD.nd)
    (af (bL (i:=2) OD.nd (ar ST LU rfl (aa (ar CL LU rfl (aa (pv 0) (aa (pv 1) ac))) ac)))
    (af (bL (i:=3) OD.nd (ar LT hr rfl (aa (pv 2) (aa ah ac))))
    (af (bL (i:=4) OD.nd (ar LT hr rfl (aa (pv 2) (aa ah ac))))
    (af (bL (i:=5) OD.nd (ar RT hr rfl (aa (ar TX hr rfl (aa (pv 3) ac)) ac)))
    (af (bL (i:=6) OD.nd (ar RT hr rfl (aa (ar TX hr rfl (aa (pv 4) ac)) ac)))
    (af (aQ (PW.pt (dP (cr (bU (ar LR ZC rfl (aa (pv 5) (aa (pv 3) (aa (pv 2) ac)))))) (c8 (cr (bU (ar LR ZC rfl (aa (pv 6) (aa (pv 4) (aa (pv 2) ac))))))))) (aj (aq fw)) aB)
    (af (bL (i:=7) OD.nd (ar RT hr rfl (aa (ar TX hr rfl (aa (pv 3) ac)) ac)))
    (aj (aQ (PW.pt (dP (cr (bU (ar SM Ve rfl (aa (aN (pv 5)) (aa (ar TO LU rfl (aa (pv 3) ac)) ac))))) (c8 (ap (OK hr) (aN (pv 7)) (aN (pv 5)))))) (aj (aq fw)) aB))))))))))
   (aj (aq fw)),?_⟩
  refine⟨_,rfl,l,_,rfl,.inl hS,_,_,rfl,_,_,rfl,_,rfl,?_,?_,?_⟩
  ·split<;>(try split)<;>lia
  ·rw[JY];split<;>(try split)<;>lia
  refine gS (lo:=0) (fun i σ H'=>∃v1 v2 v3 v4 v5 v6 v7:Option V,σ=[some (.ref l),v1,v2,v3,v4,v5,v6,v7]/\Bt T H H'/\Og H' T qL) ⟨_,_,_,_,_,_,_,rfl,fun _ _ e _=>e,WO⟩ ?_ ?_
  ·rintro i σ H1 hi ⟨v1,v2,v3,v4,v5,v6,v7,rfl,b1,t1⟩;refine⟨_,rfl,_,rfl,l,ns,0+(i:Int),rfl,FN WO b1 hS,zo,fun c=>⟨c,rfl,fun p H2 np s2 g2=>?_⟩⟩;refine⟨_,rfl,p,3,rfl,g2,zd,zd,fun d H3 D gt kvs lp lm lk us fn g3 b3 hV hD=>?_⟩;refine⟨_,rfl,p,2,rfl,g3,zd,zd,fun d' H4 D' gt' Zy lp' lm' Yc UP fn' g4 b4 hV' Vq=>?_⟩;have V4:=hV.but g3 b4;obtain⟨o1,o2,o3,o4⟩:=sw hD;obtain⟨o1',o2',o3',o4'⟩:=sw Vq;refine⟨_,rfl,d,D,gt,kvs,lp,lm,lk,us,fn,rfl,V4,hD,fun H5 s5=>⟨eR D,D,rfl,o1,o2,o3,o4,fun w1 H6 s6 T6=>?_⟩⟩;have WR:=s5.trans s6;refine⟨_,rfl,d',D',gt',Zy,lp',lm',Yc,UP,fn',rfl,hV'.same WR,Vq,fun H7 s7=>⟨eR D',D',rfl,o1',o2',o3',o4',fun w2 H8 s8 T8=>?_⟩⟩;have s68:=s7.trans s8;have X7:=WR.trans s68;have t2:=t1.bt s2;have t4:Og H4 T qL:=qr (qr t2 g2 b3) g3 b4;have t8:=t4.bt X7;have g8:N6 H8 p:=g4.same X7;refine⟨_,rfl,_,rfl,_,rfl,w1,d,p,D,gt,kvs,lp,lm,lk,us,fn,rfl,g8,T6.same s68,V4.same X7,hD,t8,fun H9 g9 b9 t9=>⟨_,rfl,bK ?_⟩⟩;have T9:=(T6.same s68).k3 g8 t8 b9;have V9:=(V4.same X7).k2 g8 t8 b9;refine⟨_,rfl,_,rfl,_,rfl,w2,d',p,D',gt',Zy,lp',lm',Yc,UP,fn',rfl,g9,T8.k3 g8 t8 b9,(hV'.same X7).k2 g8 t8 b9,Vq,t9,fun H10 g10 b10 ZY=>⟨_,rfl,bK ?_⟩⟩;have T10:=T9.k3 g9 t9 b10;have V10:=V9.k2 g9 t9 b10;refine⟨_,rfl,d,D,gt,kvs,lp,lm,lk,us,fn,rfl,V10,hD,fun H11 VE=>⟨eR D,D,rfl,o1,o2,o3,o4,fun w3 H12 Mc T12=>?_⟩⟩;have XM:=VE.trans Mc;have X1:=T10.same XM;obtain⟨a1,UD,_,_,_,_,_,ev1,TR,_⟩:=id X1;refine⟨_,rfl,a1,UD,C,fT,_,Yu,1,[R8],_,ev1,TR,rfl,Tb.cl,MT,Zv,LU,BT,w1,D,by rw[ev1],X1,fun u1 H13 Wq V13=>?_⟩;refine⟨_,rfl,d,D,gt,kvs,lp,lm,lk,us,fn,rfl,(V10.same XM).same Wq,hD,fun u2 H14 Z2 V14=>⟨u1,u2,rfl,Qh hD (V13.kt (ao Z2)) V14,fun H15 Z1=>⟨_,rfl,bK ?_⟩⟩⟩;have XJ:=(Wq.trans Z2).trans Z1;have T15:=T12.same XJ;obtain⟨a3,Vr,_,_,_,_,_,ev3,Ux,_⟩:=id T15;refine⟨_,rfl,a3,Vr,C,fT,_,Yu,1,[R8],_,ev3,Ux,rfl,Tb.cl,MT,Zv,LU,BT,w3,D,by rw[ev3],T15,fun u3 H16 X_ V16=>?_⟩;have T16:=(X1.same XJ).same X_;obtain⟨a4,Va,_,_,_,_,_,ev4,Uv,_⟩:=id T16;refine⟨_,rfl,a4,Va,C,fT,_,Yu,1,[R8],_,ev4,Uv,rfl,Tb.cl,MT,Zv,LU,BT,w1,D,by rw[ev4],T16,fun u4 H17 s17 V17=>CW hD (V16.kt (ao s17)) V17 ⟨_,rfl,bK ?_⟩⟩;have Xa:NV H10 H17:=((XM.trans XJ).trans X_).trans s17;refine⟨_,_,_,_,_,_,_,rfl,fun b o hb ne=>?_,ZY.bt Xa⟩;have Z9:b≠p:=az (b1 _ _ hb ne) np;exact Xa _ _ (b10 _ _ (b9 _ _ (X7 _ _ (b4 _ _ (b3 _ _ (s2 _ _ (b1 _ _ hb ne)) Z9) Z9)) Z9 ne) Z9 ne)
  ·rintro σ H5 ⟨v1,v2,v3,v4,v5,v6,v7,rfl,b5,t5⟩;exact q H5
end
variable{P:List Tr->Prop}
def u0(h:P []):∀us:List Tr,us.length=0->P us:=fun _ e=>K9.mp e▸h
variable{n:Nat}
def uS(h:∀a us,us.length=n->P (a::us)):∀us:List Tr,us.length=n+1->P us
 |a::us,e=>h a us (Nat.succ.inj e)
def u1{P:List Tr->Prop}(h:∀a,P [a]):∀us:List Tr,us.length=1->P us:=uS fun a=>u0 (P:=fun us=>P (a::us)) (h a)
def u2{P:List Tr->Prop}(h:∀a b,P [a,b]):∀us:List Tr,us.length=2->P us:=uS fun a=>u1 (P:=fun us=>P (a::us)) (h a)
def u3{P:List Tr->Prop}(h:∀a b c,P [a,b,c]):∀us:List Tr,us.length=3->P us:=uS fun a=>u2 (P:=fun us=>P (a::us)) (h a)
def u4{P:List Tr->Prop}(h:∀a b c d,P [a,b,c,d]):∀us:List Tr,us.length=4->P us:=uS fun a=>u3 (P:=fun us=>P (a::us)) (h a)
def u5{P:List Tr->Prop}(h:∀a b c d e,P [a,b,c,d,e]):∀us:List Tr,us.length=5->P us:=uS fun a=>u4 (P:=fun us=>P (a::us)) (h a)
def u6{P:List Tr->Prop}(h:∀a b c d e f,P [a,b,c,d,e,f]):∀us:List Tr,us.length=6->P us:=uS fun a=>u5 (P:=fun us=>P (a::us)) (h a)
def u7{P:List Tr->Prop}(h:∀a b c d e f g,P [a,b,c,d,e,f,g]):∀us:List Tr,us.length=7->P us:=uS fun a=>u6 (P:=fun us=>P (a::us)) (h a)
def u8{P:List Tr->Prop}(h:∀a b c d e f g h1,P [a,b,c,d,e,f,g,h1]):∀us:List Tr,us.length=8->P us:=uS fun a=>u7 (P:=fun us=>P (a::us)) (h a)
def aX(K:ZF)(x:Str)(st:Stmt)(f:Ts):Prop:=
 PySem.W.nsIn K mainGlobals x=some (some (.ref f))/\∃fd:TB,Ob K x x st f fd
variable{f:Ts}{x:Str}{K:ZF}
def FQ{st:Stmt}{oc:Tr}{od an:Option Ts}{Uj:Array (Option Tr)}{kV doc pm Mb ct:Tr}(a:PySem.W.nsIn K mainGlobals x=some (some (.ref f)))
  (l:K.lookup f=some ⟨oc,od,.func (PySem.W.fnOf x x (df st) (cA st) (ak st) .none kV doc pm an Mb ct),Uj⟩) (c:PySem.W.codeIn K Mb x=true) (k:PySem.W.keepIn K (.ref f)=true):aX K x st f:=⟨a,_,yk l c k⟩
def wu{P:Tv}{w:Tw}{K:ZF}{mg:Str->Option Tr}{base h:Heap}{x:Str}{st:Stmt}{f:Ts}{k:Nat}{ps:TH}{sp:Sp}(X:K.In h)(G:h.Ns mainGlobals mg)(D:aX K x st f)
  (ok:∀fd,Ob K x x st f fd->NZ P w K mg base bZ k f fd ps sp)
  (hb:∀(kV doc pm:Tr)(an:Option Ts)(Mb ct:Tr)(us:List Tr),us.length=ps.length->bindArgs (PySem.W.fnOf x x (df st) (cA st) (ak st) .none kV doc pm an Mb ct) ⟨us,[]⟩=pure (ps.zip us):=by intro _ _ _ _ _ _;first|exact u1 fun _=>rfl|exact u2 fun _ _=>rfl|exact u3 fun _ _ _=>rfl|exact u4 fun _ _ _ _=>rfl|exact u5 fun _ _ _ _ _=>rfl|exact u0 rfl|exact u8 fun _ _ _ _ _ _ _ _=>rfl):Fn P w K mg base x k ps sp:=by
 obtain⟨a,fd,F⟩:=D;exact⟨f,fd,Ku X G a,F.kp,F.binds hb,ok fd F⟩
structure qz(K:ZF)(x qual:Str)(st:Stmt)(f:Ts):Prop where
 fu:∃fd:TB,Ob K x qual st f fd
 fn:PySem.W.isFn K (.ref f)=true
def FU{K:ZF}{x qual:Str}{st:Stmt}{f:Ts}{oc:Tr}{od an:Option Ts}{Uj:Array (Option Tr)}{kV doc pm Mb ct:Tr}
  (l:K.lookup f=some ⟨oc,od,.func (PySem.W.fnOf x qual (df st) (cA st) (ak st) .none kV doc pm an Mb ct),Uj⟩) (c:PySem.W.codeIn K Mb qual=true) (k:PySem.W.keepIn K (.ref f)=true) (n:PySem.W.isFn K (.ref f)=true):qz K x qual st f:=⟨⟨_,yk l c k⟩,n⟩
def FV{P:Tv}{w:Tw}{K:ZF}{mg:Str->Option Tr}{base:Heap}{Cc f:Ts}{x qual:Str}{st:Stmt}{k:Nat}{ps:TH}{sp:Sp}(a:PySem.W.findIn K (.ref Cc) x=some (some (.ref f)))(D:qz K x qual st f)
  (ok:∀fd,Ob K x qual st f fd->NZ P w K mg base bZ k f fd ps sp)
  (hb:∀(kV doc pm:Tr)(an:Option Ts)(Mb ct:Tr)(us:List Tr),us.length=ps.length->bindArgs (PySem.W.fnOf x qual (df st) (cA st) (ak st) .none kV doc pm an Mb ct) ⟨us,[]⟩=pure (ps.zip us):=by intro _ _ _ _ _ _;first|exact u1 fun _=>rfl|exact u2 fun _ _=>rfl|exact u3 fun _ _ _=>rfl|exact u4 fun _ _ _ _=>rfl|exact u5 fun _ _ _ _ _=>rfl|exact u0 rfl|exact u8 fun _ _ _ _ _ _ _ _=>rfl):ir P w K mg base Cc x k ps sp:=by
 obtain⟨⟨fd,F⟩,n⟩:=D;exact⟨f,fd,⟨a,n,F.kp⟩,ok fd F,F.binds hb⟩
variable{st:Stmt}{qual:Str}
def Bb{P:Tv}{w:Tw}{mg:Str->Option Tr}{base:Heap}{ps:TH}{sp:Sp}(D:qz K x qual st f)
  (ok:∀fd,Ob K x qual st f fd->NZ P w K mg base bZ 1 f fd ps sp)
  (hb:∀(kV doc pm:Tr)(an:Option Ts)(Mb ct:Tr)(us:List Tr),us.length=ps.length->bindArgs (PySem.W.fnOf x qual (df st) (cA st) (ak st) .none kV doc pm an Mb ct) ⟨us,[]⟩=pure (ps.zip us):=by intro _ _ _ _ _ _;first|exact u1 fun _=>rfl|exact u2 fun _ _=>rfl|exact u3 fun _ _ _=>rfl|exact u4 fun _ _ _ _=>rfl|exact u5 fun _ _ _ _ _=>rfl|exact u0 rfl|exact u8 fun _ _ _ _ _ _ _ _=>rfl):∃fd,NZ P w K mg base bZ 1 f fd ps sp/\Oa K fd ps []:=by
 obtain⟨⟨fd,F⟩,n⟩:=D;exact⟨fd,ok fd F,F.binds hb⟩
def qt{P:Tv}{w:Tw}{mg:Str->Option Tr}{base:Heap}{Cc f:Ts}{k:Nat}{ps:TH}{sp:Sp}(a:PySem.W.findIn K (.ref Cc) x=some (some (.ref f)))(D:qz K x qual st f)
  (ok:∀fd,Ob K x qual st f fd->NZ P w K mg base (kX P w) k f fd ps sp)
  (hb:∀(kV doc pm:Tr)(an:Option Ts)(Mb ct:Tr)(us:List Tr),us.length=ps.length->bindArgs (PySem.W.fnOf x qual (df st) (cA st) (ak st) .none kV doc pm an Mb ct) ⟨us,[]⟩=pure (ps.zip us):=by intro _ _ _ _ _ _;first|exact u1 fun _=>rfl|exact u2 fun _ _=>rfl|exact u3 fun _ _ _=>rfl|exact u4 fun _ _ _ _=>rfl|exact u5 fun _ _ _ _ _=>rfl|exact u0 rfl|exact u8 fun _ _ _ _ _ _ _ _=>rfl):qp P w K mg base Cc x k ps sp:=by
 obtain⟨⟨fd,F⟩,n⟩:=D;exact⟨f,fd,⟨a,n,F.kp⟩,ok fd F,F.binds hb⟩
structure HQ(K:ZF)(nm:Str)(bm:List Tr)(C:Ts):Prop where
 ns:PySem.W.nsIn K mainGlobals nm=some (some (.ref C))
 c:XC K C nm bm
def FW{nm:Str}{bm:List Tr}{C:Ts}{q:Str}{N:Ts}{bs:List Tr}{sn:TH}{Ui:List Tr}{ab:Bool}{col:Option Bool}{dd:Option Ts}{k0 k1 k2 k3 k5:Option Tr}(tl:XB.Tail bm)(a:PySem.W.nsIn K mainGlobals nm=some (some (.ref C)))(l:K.lookup C=some (excClassObj nm q C N bs bm true sn Ui ab col dd k0 k1 k2 k3 k5 "ValueError.__new__"))
  (g1:PySem.W.findIn K (.ref C) "__getattribute__"=some (some (.builtin "BaseException.__getattribute__"))) (g2:PySem.W.findIn K (.ref C) "__getattr__"=some none) (g3:PySem.W.findIn K (.ref C) "__setattr__"=some (some (.builtin "object.__setattr__"))) (g4:PySem.W.findIn K (.ref C) "__class__"=some (some (.builtin "object.__class__"))):HQ K nm bm C:=
 ⟨a,⟨tl,⟨q,N,bs,sn,Ui,ab,col,dd,k0,k1,k2,k3,k5,l⟩,g1,g2,g3,g4⟩⟩
def JM:XB.Tail XB.bmV:=.inl rfl
variable{R:Ts}
def JN:XB.Tail (nr R):=.inr ⟨R,rfl⟩
variable{base h:Heap}{mg:Str->Option Tr}{w:Tw}
def sx{P:Tv}(X:K.In h)(G:h.Ns mainGlobals mg)(D:aX K "_law_same" lW f)(B:Bl mg)(hz:mg "zip"=none):∀n,Fn P w K mg base "_law_same" (n+1) [Sf,SH] (Pa n)
 |0=>wu X G D fun fd _=>⟨fun _ _ _ _⟨_,_,_,h,_⟩=>(nomatch h),fun _ _ _ _ _ _ _ _ _ _ _ _ _⟨_,_,_,h,_⟩=>(nomatch h)⟩
 |n+1=>wu X G D fun fd F=>QK F B hz (sx X G D B hz n)
def O1(K:ZF)(c:Ts):TH->Prop
 |[]=>True
 |f::r=>Oe K c f/\O1 K c r
variable{c:Ts}
def O1.get:∀{l:TH},O1 K c l->∀f∈l,Oe K c f
 |[],_,f,hf=>absurd hf (by simp)
 |g::r,h,f,hf=>by
  rcases J0.mp hf with rfl|hf
  ·exact h.1
  ·exact O1.get h.2 f hf
structure CK(K:ZF)(n:Str)(c i:Ts)(fl:TH):Prop where
 ns:PySem.W.nsIn K mainGlobals n=some (some (.ref c))
 cls:PP K c
 na:O1 K c fl
 mk_:Mk K c i
def DQ{n:Str}{c i:Ts}{fl:TH}(ns:PySem.W.nsIn K mainGlobals n=some (some (.ref c)))(g1:PySem.W.plainGet K c Str.empty=true)(g2:PySem.W.hasDictIn K c=true)(g3:PySem.W.plainOver K c=true)
  (g4:PySem.W.findIn K (.ref c) "__setattr__"=some (some (.builtin "object.__setattr__"))) (m1:PySem.W.makesIn K c=true) (m2:PySem.W.findIn K (.ref c) "__init__"=some (some (.ref i))) (m3:PySem.W.isFn K (.ref i)=true) (m4:PySem.W.keepIn K (.ref c)=true) (na:O1 K c fl):CK K n c i fl:=
 ⟨ns,⟨g1,g2,g3,g4⟩,na,⟨m1,m2,m3,m4⟩⟩
variable{a b d:Str}
def JO(x:PySem.W.findIn K (.ref c) a=some none)(y:PySem.W.findIn K (.ref c) b=some none)(z:PySem.W.findIn K (.ref c) d=some none):O1 K c [a,b,d]:=⟨x,y,z,trivial⟩
def JP{a b d e f g h i:Str}(x:PySem.W.findIn K (.ref c) a=some none)(y:PySem.W.findIn K (.ref c) b=some none)(z:PySem.W.findIn K (.ref c) d=some none)(u:PySem.W.findIn K (.ref c) e=some none)(x1:PySem.W.findIn K (.ref c) f=some none)(y1:PySem.W.findIn K (.ref c) g=some none)(z1:PySem.W.findIn K (.ref c) h=some none)(u1:PySem.W.findIn K (.ref c) i=some none):O1 K c [a,b,d,e,f,g,h,i]:=⟨x,y,z,u,x1,y1,z1,u1,trivial⟩
def eK:∀(zs:TH)(ts:List Tok),ts.length=zs.length->N2 (zs.map V.str) ((zs.zip ts).map fun p=>Value.str p.1 p.2)
 |[],_,_=>.nil
 |z::r,[],h=>by cases h
 |z::r,t::u,h=>.cons ⟨t,rfl⟩ (eK r u (by simpa using h))
def FX{w:Tw}{K:ZF}{a f1 f2 f3 f4 f5 f6 f7 f8 f9:Ts}{t1 t2 t3 t4 t5 t6 t7 t8 t9:Tok}{ep:Nat}
  (h:K.lookup a=some {cls:=.type "dict",data:=.dict #[⟨PyData.keyHash w.params "+",.str "+" t1,.ref f1⟩,⟨PyData.keyHash w.params "-",.str "-" t2,.ref f2⟩,⟨PyData.keyHash w.params "&",.str "&" t3,.ref f3⟩,⟨PyData.keyHash w.params "|",.str "|" t4,.ref f4⟩,⟨PyData.keyHash w.params "^",.str "^" t5,.ref f5⟩,
   ⟨PyData.keyHash w.params "<<",.str "<<" t6,.ref f6⟩,⟨PyData.keyHash w.params ">>",.str ">>" t7,.ref f7⟩,⟨PyData.keyHash w.params "<",.str "<" t8,.ref f8⟩,⟨PyData.keyHash w.params "=",.str "=" t9,.ref f9⟩] ep}) :
  kA w K a [("+",.ref f1),("-",.ref f2),("&",.ref f3),("|",.ref f4),("^",.ref f5),("<<",.ref f6),(">>",.ref f7),("<",.ref f8),("=",.ref f9)]:=
 ⟨_,ep,h,.cons ⟨rfl,⟨_,rfl⟩,rfl⟩ (.cons ⟨rfl,⟨_,rfl⟩,rfl⟩ (.cons ⟨rfl,⟨_,rfl⟩,rfl⟩ (.cons ⟨rfl,⟨_,rfl⟩,rfl⟩ (.cons ⟨rfl,⟨_,rfl⟩,rfl⟩ (.cons ⟨rfl,⟨_,rfl⟩,rfl⟩ (.cons ⟨rfl,⟨_,rfl⟩,rfl⟩ (.cons ⟨rfl,⟨_,rfl⟩,rfl⟩ (.cons ⟨rfl,⟨_,rfl⟩,rfl⟩ .nil))))))))⟩
def dG{P:Tv}{j k:Nat}{ps:TH}{sp:Sp}(h:Fn P w K mg base x j ps sp)(hk:j<=k):Fn P w K mg base x k ps sp:=by obtain⟨f,fd,a,b,c,d⟩:=h;exact ⟨f,fd,a,b,c,d.mono hk⟩
def qu{a:Ts}{t1 t2 t3 t4 t5 t6 t7 t8 t9 ZY t11 t12 t13 t14 t15 t16 t17 t18 t19 t20 t21 t22:Tok}{n:Nat}(h:K.lookup a=some {cls:=.type "tuple",data:=.seq #[.str SA t1,.str Se t2,.str Sh t3,.str Sa t4,.str Sg t5,.str Sx t6,.str So t7,.str R9 t8,.str Sc t9,.str "number" ZY,.str S2 t11,.str "set" t12,.str Tn t13,.str S9 t14,.str S3 t15,.str SJ t16,.str S5 t17,.str Su t18,.str SK t19,.str SN t20,.str Sk t21,.str "bell" t22] n}):∀H,NY K H a (al OS):=fun H=>
 .inr ⟨_,_,n,h,rfl,rfl,N5,eK [SA,Se,Sh,Sa,Sg,Sx,So,R9,Sc,"number",S2,"set",Tn,S9,S3,SJ,S5,Su,SK,SN,Sk,"bell"] [t1,t2,t3,t4,t5,t6,t7,t8,t9,ZY,t11,t12,t13,t14,t15,t16,t17,t18,t19,t20,t21,t22] rfl⟩
def Bc{a:Ts}{t1 t2 t3 t4:Tok}{n:Nat}(h:K.lookup a=some {cls:=.type "tuple",data:=.seq #[.str R9 t1,.str Sc t2,.str "number" t3,.str S2 t4] n}):∀H,NY K H a (al dq):=fun H=>
 .inr ⟨_,_,n,h,rfl,rfl,N5,eK [R9,Sc,"number",S2] [t1,t2,t3,t4] rfl⟩
def De{a:Ts}{t1 t2 t3 t4 t5 t6:Tok}{n:Nat}(h:K.lookup a=some {cls:=.type "tuple",data:=.seq #[.str SJ t1,.str S5 t2,.str Su t3,.str SK t4,.str SN t5,.str Sk t6] n}):∀H,NY K H a (al [SJ,S5,Su,SK,SN,Sk]):=fun H=>
 .inr ⟨_,_,n,h,rfl,rfl,N5,eK [SJ,S5,Su,SK,SN,Sk] [t1,t2,t3,t4,t5,t6] rfl⟩
def nu{a:Ts}{t1 t2:Tok}{n:Nat}(h:K.lookup a=some {cls:=.type "tuple",data:=.seq #[.str Ta t1,.str Te t2] n}):∀H,NY K H a (al [Ta,Te]):=fun H=>
 .inr ⟨_,_,n,h,rfl,rfl,N5,eK [Ta,Te] [t1,t2] rfl⟩
def kq{a:Ts}{t1 t2:Tok}{n:Nat}(h:K.lookup a=some {cls:=.type "tuple",data:=.seq #[.str "<<" t1,.str ">>" t2] n}):∀H,NY K H a ([.str "<<",.str ">>"]):=fun H=>
 .inr ⟨_,_,n,h,rfl,rfl,N5,eK ["<<",">>"] [t1,t2] rfl⟩
def FY{l:PySem.W.OpenLaw}{w:Tw}{fa f0 f1 f2 f3 f4 f5 f6 f7 f8 f9 f10 f11 f12 f13 f14 f15 f16 f17 f18 f19 f20 f21 f22 f23 f24 f25 f26 f27 f28 f29 f30 f31 f32 f33 f34 f35 f36 f37 f38 f39 f40 f41 f42 f43 f44 f45 f46 f47 f48 f49 f50 f51 f52 f53 f54 cR iR cT iT M0 M9 M5 M7 M8 M6 MZ MY MX Na Mt Mu Mr Ms Mq aO e1 e2 e3 e4 e5 e6 e7 e8 e9 R fR cK fK cX cN c T:Ts}{MQ ML MV MR MP MS MO MN MU MH MJ MI MW:Tok}(X:K.In h)(G:h.Ns mainGlobals mg)(hfa:mg "law"=some (.ref fa))(ht:PySem.W.tabIn K "_law_right"=some (c,T))
  (d0:aX K "number_of" gX f0)
  (d1:aX K "is_whole" sT f1)
  (d2:aX K "is_within" oV f2)
  (d3:aX K "is_name" nZ f3)
  (d4:aX K "ops_told" El f4)
  (d5:aX K "read_form" jI f5)
  (d6:aX K "read_bounded" gj f6)
  (d7:aX K "read_names" iE f7)
  (d8:aX K "read_kind" jJ f8)
  (d9:aX K "read_fields" gI f9)
  (d10:aX K "read_field" iF f10)
  (d11:aX K "read_body" jK f11)
  (d12:aX K "read_choice" gJ f12)
  (d13:aX K "read_test" jL f13)
  (d14:aX K "read_leaf" gY f14)
  (d15:aX K "read_set" lQ f15)
  (d16:aX K "read_end" lR f16)
  (d17:aX K "read_expression" jM f17)
  (d18:aX K "read_cell" jN f18)
  (d19:aX K "read_two" lS f19)
  (d20:aX K "table_of_form" gk f20)
  (d21:aX K "add_name" lU f21)
  (d22:aX K "need_known" iG f22)
  (d23:aX K "kinds_named" gK f23)
  (d24:aX K "names_with_fields" iH f24)
  (Zt:aX K "deed_of" kF f25)
  (d26:aX K "test_of" oW f26)
  (d27:aX K "set_of" sU f27)
  (d28:aX K "end_of" sV f28)
  (Zs:aX K "expression_of" oX f29)
  (d30:aX K "tokens_of" oY f30)
  (d31:aX K "sign_at" yz f31)
  (d32:aX K "run_at" Em f32)
  (d33:aX K "read_table" iI f33)
  (d34:aX K "_law_cell" yA f34)
  (d35:aX K "_law_stream" oZ f35)
  (d36:aX K "_law_take" yB f36)
  (d37:aX K "_law_names" sW f37)
  (d38:aX K "_law_sel" vj f38)
  (d39:aX K "_law_atom" o0 f39)
  (Zr:aX K "_law_expr" sX f40)
  (d41:aX K "_law_sets" o6 f41)
  (d42:aX K "_law_end" vk f42)
  (Zq:aX K "_law_deed" sY f43)
  (d44:aX K "_law_table" o7 f44)
  (d45:aX K "_law_sel_text" lV f45)
  (Zp:aX K "_law_expr_text" jO f46)
  (Zo:aX K "_law_deed_text" jP f47)
  (d48:aX K "_law_text" iJ f48)
  (d49:aX K "_law_same" lW f49)
  (d50:aX K "_law_told" o8 f50)
  (d51:aX K "_law_refused" lX f51)
  (d52:aX K "_law_no_kinds" fG f52)
  (d53:aX K "_law_right" cL f53)
  (d54:aX K "law" wN f54)
  (CR:CK K "Reader" cR iR [SE,Tj,"may_end"]) (IR:qz K "__init__" "Reader.__init__" tX iR)
  (CT:CK K "Table" cT iT [R_,Se,Sh,Sa,Sg,Sx,SC,Ss]) (IT:qz K "__init__" "Table.__init__" pM iT)
  (My:PySem.W.findIn K (.ref cR) "look"=some (some (.ref M0))) (Mi:qz K "look" "Reader.look" yE M0)
  (ME:PySem.W.findIn K (.ref cR) "take"=some (some (.ref M9))) (Mo:qz K "take" "Reader.take" IM M9)
  (Mz:PySem.W.findIn K (.ref cR) "need"=some (some (.ref M5))) (Mj:qz K "need" "Reader.need" yF M5)
  (MB:PySem.W.findIn K (.ref cR) "need_name"=some (some (.ref M7))) (Mm:qz K "need_name" "Reader.need_name" jR M7)
  (MC:PySem.W.findIn K (.ref cR) "need_number"=some (some (.ref M8))) (Mn:qz K "need_number" "Reader.need_number" gM M8)
  (MA:PySem.W.findIn K (.ref cR) "need_end"=some (some (.ref M6))) (Ml:qz K "need_end" "Reader.need_end" l0 M6)
  (Mx:PySem.W.findIn K (.ref cT) "kind_at"=some (some (.ref MZ))) (Mh:qz K "kind_at" "Table.kind_at" pO MZ)
  (Mw:PySem.W.findIn K (.ref cT) "fields_of"=some (some (.ref MY))) (Mg:qz K "fields_of" "Table.fields_of" jY MY)
  (Mv:PySem.W.findIn K (.ref cT) "deed"=some (some (.ref MX))) (Mf:qz K "deed" "Table.deed" zn MX)
  (MG:PySem.W.findIn K (.ref cT) "told"=some (some (.ref Na))) (Mp:qz K "told" "Table.told" zp Na)
  (Nl:PySem.W.nsIn K mainGlobals "MOST_FIGURES"=some (some (.int 9 MQ)))
  (Nh:PySem.W.nsIn K mainGlobals "LONGEST_NAME"=some (some (.int 8 ML)))
  (Np:PySem.W.nsIn K mainGlobals "MOST_TOKENS"=some (some (.int 1500 MV)))
  (Nm:PySem.W.nsIn K mainGlobals "MOST_KINDS"=some (some (.int 8 MR)))
  (Nk:PySem.W.nsIn K mainGlobals "MOST_FIELDS"=some (some (.int 3 MP)))
  (Nn:PySem.W.nsIn K mainGlobals "MOST_SETS"=some (some (.int 4 MS)))
  (Nj:PySem.W.nsIn K mainGlobals "MOST_CHOICES"=some (some (.int 3 MO)))
  (Ni:PySem.W.nsIn K mainGlobals "MOST_BRACKETS"=some (some (.int 3 MN)))
  (No:PySem.W.nsIn K mainGlobals "MOST_SIGNS"=some (some (.int 20000 MU)))
  (Nd:PySem.W.nsIn K mainGlobals "FIGURES"=some (some (.str "0123456789" MH)))
  (Ng:PySem.W.nsIn K mainGlobals "LETTERS"=some (some (.str "abcdefghijklmnopqrstuvwxyz" MJ)))
  (Nf:PySem.W.nsIn K mainGlobals "GAPS"=some (some (.str " \n" MI)))
  (Nu:PySem.W.nsIn K mainGlobals "SINGLE_SIGNS"=some (some (.str "(){}[],;+-&|^<=" MW)))
  (Nt:PySem.W.nsIn K mainGlobals "OWN_WORDS"=some (some (.ref Mt))) (NB:∀H,NY K H Mt (al OS))
  (Nv:PySem.W.nsIn K mainGlobals "SORTS"=some (some (.ref Mu))) (NC:∀H,NY K H Mu (al dq))
  (Nc:PySem.W.nsIn K mainGlobals "ENDS"=some (some (.ref Mr))) (Ny:∀H,NY K H Mr (al [SJ,S5,Su,SK,SN,Sk]))
  (Nr:PySem.W.nsIn K mainGlobals "OWN_FAULTS"=some (some (.ref Ms))) (Nz:∀H,NY K H Ms (al [Ta,Te]))
  (Nb:PySem.W.nsIn K mainGlobals "DOUBLE_SIGNS"=some (some (.ref Mq))) (Nw:∀H,NY K H Mq ([.str "<<",.str ">>"]))
  (Nq:PySem.W.nsIn K mainGlobals "OPS"=some (some (.ref aO))) (dO:kA w K aO [("+",.ref e1),("-",.ref e2),("&",.ref e3),("|",.ref e4),("^",.ref e5),("<<",.ref e6),(">>",.ref e7),("<",.ref e8),("=",.ref e9)]) (lo:(aO==sysModules)=false)
  (xR:HQ K "RowsError" XB.bmV R) (rd:PySem.W.readsIn K R (.type "type")=true) (ri:PySem.W.findCls K (.ref R) (.type "type") "__init__"=some (.val (.ref fR))) (mR:qz K "__init__" "RowsError.__init__" qm fR)
  (xK:HQ K "NoKind" (nr R) cK) (aK:PySem.W.findIn K (.ref cK) "name"=some none) (iK:PySem.W.findIn K (.ref cK) "__init__"=some (some (.ref fK))) (nK:PySem.W.isFn K (.ref fK)=true) (pK:PySem.W.keepIn K (.ref cK)=true) (mK:qz K "__init__" "NoKind.__init__" qo fK)
  (xT:HQ K "NoText" (nr R) cX) (xN:HQ K "NoName" (nr R) cN)
  (NL:PySem.W.nsIn K mainGlobals "len"=some none)
  (NH:PySem.W.nsIn K mainGlobals "int"=some none)
  (NO:PySem.W.nsIn K mainGlobals "max"=some none)
  (NP:PySem.W.nsIn K mainGlobals "min"=some none)
  (NQ:PySem.W.nsIn K mainGlobals "range"=some none)
  (NJ:PySem.W.nsIn K mainGlobals "isinstance"=some none)
  (NN:PySem.W.nsIn K mainGlobals "list"=some none)
  (NR:PySem.W.nsIn K mainGlobals "str"=some none)
  (NE:PySem.W.nsIn K mainGlobals "bool"=some none)
  (NS:PySem.W.nsIn K mainGlobals "tuple"=some none)
  (ND:PySem.W.nsIn K mainGlobals "all"=some none)
  (NF:PySem.W.nsIn K mainGlobals "dict"=some none)
  (NG:PySem.W.nsIn K mainGlobals "enumerate"=some none)
  (NT:PySem.W.nsIn K mainGlobals "zip"=some none)
  (UL:PySem.W.nsIn K mainGlobals "ValueError"=some none) :
  ∃fd:TB,(∀(s:Tu)(v:Tr),BindsTo s fd ⟨[v],[]⟩ [(SB,v)])/\∀base:Heap,K.In base->base.Ns mainGlobals mg->uC base mg c T->NZ l.prog w K mg base bZ 28 fa fd [SB] (uK K T):=by
 have B:Bl mg:=⟨KG X G NL,KG X G NH,KG X G NO,KG X G NP,KG X G NQ,KG X G NJ,KG X G NN,KG X G NR,KG X G NE,KG X G NS,KG X G ND⟩;have B3:EH mg:=⟨KG X G NF,KG X G NG⟩;have Z:tK K mg Mu Mr Ms MP MS MO MR:=⟨(Ku X G Nv),NC,(Ku X G Nc),Ny,(Ku X G Nr),Nz,(Ku X G Nk),(Ku X G Nn),(Ku X G Nj),(Ku X G Nm)⟩;have CN:Ev K mg Mt MJ ML:=⟨(Ku X G Nt),NB,(Ku X G Ng),(Ku X G Nh)⟩;have CT2:BU K mg Mq MI MW:=⟨(Ku X G Nf),(Ku X G Nu),(Ku X G Nb),Nw,B.len⟩;have ZX:ZE mg MN:=⟨(Ku X G Ni)⟩;have RC:Rc K cR:=⟨CR.cls,CR.na.1,CR.na.2.1,CR.na.2.2.1⟩;have TC:Tc K cT:=⟨CT.cls,CT.na.get⟩;obtain⟨a14,fd,F⟩:=d54;have e:=hfa.symm.trans (Ku X G a14);cases e;obtain⟨oc,od,kV,doc,pm,an,Mb,ct,Uj,rfl,lk,Ug⟩:=id F.ex;refine⟨PySem.W.fnOf "law" "law" (df wN) (cA wN) (ak wN) .none kV doc pm an Mb ct,fun s v=>.of_eq rfl,fun base _ _ LC=>?_⟩;have fm:=@wu l.prog w K mg base h;have mm:=@FV l.prog w K mg base;have WH:=fm X G d1 (fun _ F=>yH F B);have WI:=fm X G d2 (fun _ F=>wP F WH);have NM:=fm X G d3 (fun _ F=>BQ F B CN);have NM2:=fm X G d3 (fun _ F=>yR F B CN);have NU:=fm X G d0 (fun _ F=>rE F B (Ku X G Nd) (Ku X G Nl));have RM:Rm l.prog w K mg base cR:=⟨RC,(mm My Mi (fun _ F=>BJ F RC)),(mm ME Mo (fun _ F=>GP F RC))⟩;have Ud:sy l.prog w K mg base cR:=⟨RM,(mm Mz Mj (fun _ F=>BL F RM)),(mm MB Mm (fun _ F=>rq F RM NM)),(mm MC Mn (fun _ F=>ni F RM NU WI)),(mm MA Ml (fun _ F=>tD F RM B))⟩;obtain⟨fdR,INR,bIR⟩:=Bb (P:=l.prog) (w:=w) (mg:=mg) (base:=base) IR (fun _ F=>y3 F RC B (Ku X G Np));obtain⟨Yu,INT,bIT⟩:=Bb (P:=l.prog) (w:=w) (mg:=mg) (base:=base) IT (fun _ F=>zf F TC B);have BO:=fm X G d6 (fun _ F=>tE F Ud);have NA:=fm X G d7 (fun _ F=>yJ F Ud B);have FL:=fm X G d10 (fun _ F=>yU F Ud Z);have ER:=fm X G d16 (fun _ F=>B5 F Ud Z);have FS:=fm X G d9 (fun _ F=>wT F Ud Z B FL);have TE:=fm X G d13 (fun _ F=>y0 F Ud);have OP:=fm X G d4 (fun _ F=>EG F B (Ku X G Nq) dO rfl lo);have CE0:Fn l.prog w K mg base "read_cell" 3 [Sb,R_,Sy] (pw cR 0):=fm X G d18 (fun _ F=>eC);have TW0:Fn l.prog w K mg base "read_two" 3 [Sb,R_,Sy] (tJ cR 0):=fm X G d19 (fun _ F=>eC);have EX0:=fm X G d17 (fun _ F=>kG F Ud ZX NM2 CE0 TW0 zd);have CE1:=fm X G d18 (fun _ F=>mh F Ud EX0 zd);have TW1:=fm X G d19 (fun _ F=>pA F Ud EX0 OP zd);have EX1:=fm X G d17 (fun _ F=>kG F Ud ZX NM2 CE1 TW1 zd);have CE2:=fm X G d18 (fun _ F=>mh F Ud EX1 zd);have TW2:=fm X G d19 (fun _ F=>pA F Ud EX1 OP zd);have EX2:=fm X G d17 (fun _ F=>kG F Ud ZX NM2 CE2 TW2 zd);have CE3:=fm X G d18 (fun _ F=>mh F Ud EX2 zd);have TW3:=fm X G d19 (fun _ F=>pA F Ud EX2 OP zd);have EX3:=fm X G d17 (fun _ F=>kG F Ud ZX NM2 CE3 TW3 zd);have SR:=fm X G d15 (fun _ F=>B6 F Ud EX3 zd);have LF:=fm X G d14 (fun _ F=>yZ F Ud Z B SR ER zd);have CH0:Fn l.prog w K mg base "read_choice" 12 [Sb,R_,SV] (jV cR 0):=fm X G d12 (fun _ F=>eC);have BD0:=fm X G d11 (fun _ F=>jh F Ud Z CH0 (dG (k:=12) LF zd) zd);have CH1:=fm X G d12 (fun _ F=>iN F Ud TE BD0 zd);have BD1:=fm X G d11 (fun _ F=>jh F Ud Z CH1 (dG (k:=14) LF zd) zd);have CH2:=fm X G d12 (fun _ F=>iN F Ud TE BD1 zd);have BD2:=fm X G d11 (fun _ F=>jh F Ud Z CH2 (dG (k:=16) LF zd) zd);have CH3:=fm X G d12 (fun _ F=>iN F Ud TE BD2 zd);have BD3:=fm X G d11 (fun _ F=>jh F Ud Z CH3 (dG (k:=18) LF zd) zd);have KD:=fm X G d8 (fun _ F=>Ca F Ud FS BD3 zd);have RF:=fm X G d5 (fun _ F=>Ce F Ud Z B CR.mk_ (Ku X G CR.ns) INR bIR BO NA KD zd);have AN:=fm X G d21 (fun _ F=>tZ F);have NK:=fm X G d22 (fun _ F=>pI F);have NW:=fm X G d24 (fun _ F=>EI F B3 AN);have XO0:Fn l.prog w K mg base "expression_of" 1 [Sj,"e"] (pJ 0):=fm X G Zs (fun _ F=>eC);have XO1:=fm X G Zs (fun _ F=>kK F NK XO0 zd);have XO2:=fm X G Zs (fun _ F=>kK F NK XO1 zd);have XO3:=fm X G Zs (fun _ F=>kK F NK XO2 zd);have XO4:=fm X G Zs (fun _ F=>kK F NK XO3 zd);have SO:=fm X G d27 (fun _ F=>za F NK XO4 zd);have TT:=fm X G d26 (fun _ F=>wW F NK);have EO:=fm X G d28 (fun _ F=>wX F NK);have DO0:Fn l.prog w K mg base "deed_of" 6 [Sj,Tq] (ji 3 0):=fm X G Zt (fun _ F=>eC);have DO1:=fm X G Zt (fun _ F=>hZ F B TT EO (dG (k:=6) SO zd) DO0 zd);have DO2:=fm X G Zt (fun _ F=>hZ F B TT EO (dG (k:=7) SO zd) DO1 zd);have DO3:=fm X G Zt (fun _ F=>hZ F B TT EO (dG (k:=8) SO zd) DO2 zd);have DO4:=fm X G Zt (fun _ F=>hZ F B TT EO (dG (k:=9) SO zd) DO3 zd);have KN:=fm X G d23 (fun _ F=>GZ F B NW DO4 zd);have TF:=fm X G d20 (fun _ F=>G0 F B B3 CT.mk_ (Ku X G CT.ns) INT bIT AN NK KN zd);have SG:=fm X G d31 (fun _ F=>BX F CT2);have RN:=fm X G d32 (fun _ F=>EC F CT2 SG);have TO:=fm X G d30 (fun _ F=>BY F CT2 SG RN);have RT:=fm X G d33 (fun _ F=>G3 F B (Ku X G No) TO RF TF zd zd);have Zu:Xs K mg R fR cK fK cX cN:=⟨xR.c,xK.c,xT.c,xN.c,aK,⟨iK,nK,pK⟩,⟨rd,ri,mR.fu.elim fun _ F=>F.kp⟩,Ku X G xR.ns,Ku X G xK.ns,Ku X G xT.ns,Ku X G xN.ns,KG X G UL⟩;have RIX6:HZ l.prog w K mg base fR:=by
  obtain⟨⟨fd,F⟩,_⟩:=mR;exact⟨fd,F.binds (fun _ _ _ _ _ _=>by exact u2 fun _ _=>rfl),HH F Zu⟩
 obtain⟨⟨fdK,FK0⟩,_⟩:=id mK;have BK6:=FK0.binds (ps:=[R8,"name"]) (fun _ _ _ _ _ _=>by exact u2 fun _ _=>rfl);have FK6:=HI (P:=l.prog) (w:=w) (base:=base) FK0 Zu RIX6;have KAX:qp l.prog w K mg base cT "kind_at" 4 [R8,So] (jC K cT cK):=(qt (P:=l.prog) (w:=w) (mg:=mg) (base:=base) Mx Mh (fun _ F=>AO F TC Zu FK6 BK6));have FOX:qp l.prog w K mg base cT "fields_of" 5 [R8,So] (wo K cT cK):=(qt (P:=l.prog) (w:=w) (mg:=mg) (base:=base) Mw Mg (fun _ F=>FH F TC KAX));have DEX:qp l.prog w K mg base cT "deed" 5 [R8,So] (kZ K cT cK):=(qt (P:=l.prog) (w:=w) (mg:=mg) (base:=base) Mv Mf (fun _ F=>AQ F TC KAX));have TD:ir l.prog w K mg base cT "told" 1 [R8] (ia cT):=(mm MG Mp (fun _ F=>zt F TC));have CL:=fm X G d34 (fun _ F=>BH F B);have ST:=fm X G d35 (fun _ F=>wO F B);have Vb:=fm X G d36 (fun _ F=>BI F);have LN:=fm X G d37 (fun _ F=>xc F B Vb);have SL:=fm X G d38 (fun _ F=>Co F B B3 Vb);have AT:=fm X G d39 (fun _ F=>zD F B B3 Vb SL);have LE0:Fn l.prog w K mg base "_law_expr" 3 [R6,R5,R7,Sr] (kM 0):=fm X G Zr (fun _ F=>eC);have LE1:=fm X G Zr (fun _ F=>jq F Vb AT LE0 zd);have LE2:=fm X G Zr (fun _ F=>jq F Vb AT LE1 zd);have LE3:=fm X G Zr (fun _ F=>jq F Vb AT LE2 zd);have LE4:=fm X G Zr (fun _ F=>jq F Vb AT LE3 zd);have LSE:=fm X G d41 (fun _ F=>zJ F B Vb SL LE4 zd);have LEN:=fm X G d42 (fun _ F=>Cu F B B3 Vb);have LD0:Fn l.prog w K mg base "_law_deed" 8 [R6,R5,R7,SF,Sr] (kO 4 0):=fm X G Zq (fun _ F=>eC);have LD1:=fm X G Zq (fun _ F=>jr F Vb SL (dG (k:=8) LSE zd) LEN LD0 zd);have LD2:=fm X G Zq (fun _ F=>jr F Vb SL (dG (k:=9) LSE zd) LEN LD1 zd);have LD3:=fm X G Zq (fun _ F=>jr F Vb SL (dG (k:=10) LSE zd) LEN LD2 zd);have LD4:=fm X G Zq (fun _ F=>jr F Vb SL (dG (k:=11) LSE zd) LEN LD3 zd);have LT:=fm X G d44 (fun _ F=>Cz F B Vb LN LD4 zd);have W_:=fm X G d45 (fun _ F=>Ff F);have ET0:Fn l.prog w K mg base "_law_expr_text" 1 [Ti,R5,R7] (vU 0):=fm X G Zp (fun _ F=>eC);have ET1:=fm X G Zp (fun _ F=>p7 F B W_ ET0 zd);have ET2:=fm X G Zp (fun _ F=>p7 F B W_ ET1 zd);have ET3:=fm X G Zp (fun _ F=>p7 F B W_ ET2 zd);have ET4:=fm X G Zp (fun _ F=>p7 F B W_ ET3 zd);have DX0:Fn l.prog w K mg base "_law_deed_text" 5 [Si,R5,R7] (vV 0):=fm X G Zo (fun _ F=>eC);have DX1:=fm X G Zo (fun _ F=>p8 F B W_ (dG (k:=5) ET4 zd) DX0 zd);have DX2:=fm X G Zo (fun _ F=>p8 F B W_ (dG (k:=6) ET4 zd) DX1 zd);have DX3:=fm X G Zo (fun _ F=>p8 F B W_ (dG (k:=7) ET4 zd) DX2 zd);have DX4:=fm X G Zo (fun _ F=>p8 F B W_ (dG (k:=8) ET4 zd) DX3 zd);have TX:=fm X G d48 (fun _ F=>Ap F B B3 DX4 zd);have SM6:=sx (P:=l.prog) (w:=w) (base:=base) X G d49 B (KG X G NT) 23;have W9:=fm X G d50 (fun _ F=>AU F B);have NK6:=fm X G d52 (fun _ F=>uJ F B Vb);have RF6:=fm X G d51 (fun _ F=>uG (k:=6) F B Zu);have LR6:=wu (P:=l.prog) (w:=w) (base:=base) (k:=25) (ps:=[Sf,R5,R6]) (sp:=Da cT T) X G d53 (fun _ F=>by
  obtain⟨oc',od',kV',doc',Z5,an',cdv',ct',osl',rfl,Yc,hcd'⟩:=id F.ex;have hc:(PySem.W.fnOf "_law_right" "_law_right" (df cL) (cA cL) (ak cL) .none kV' doc' Z5 an' cdv' ct').code=.ref c:=PySem.W.law_code X G ht (Ku X G d53.1) (X _ _ Yc) rfl;exact HP F hc LC B TC Zu W9 SM6 NK6 RF6 DEX FOX TD)
 exact Dc F B TC CL ST (dG (k:=27) LT zd) (dG (k:=27) TX zd) (dG (k:=27) RT zd) LR6 SM6 W9 TD zd
end L3
namespace PySem.W.Fast
def t:=trivial
def tw9989485493528518833:=t
def tw14892481472085905351:=t
def tw16892710083129042613:=t
def tw5054677353963305665:=t
def tw4447364925114898402:=t
def tw3047213997748649940:=t
def tw3901834139820844872:=t
def tw3953449293416828947:=t
def tw11903021892097316678:=t
def tw15872149973808788288:=t
def tw13627041623261649724:=t
def tw3838580850916591739:=t
def tw11156640752928793337:=t
def tw14355025759512896001:=t
def tw15757875676533176273:=t
def tw9152022567060290936:=t
def tw14890459924435751311:=t
def tw15519540214494786366:=t
def tw3011522831981748082:=t
def tw13318020603111013819:=t
def tw1219836160840113121:=t
def tw14628469301955776252:=t
def tw10529326932489713767:=t
def tw3357119019781953298:=t
def tw9980587199031494547:=t
def tw13973956795072130917:=t
def tw4298943857668399671:=t
def tw18427603629738726754:=t
def tw16669183585171528367:=t
def tw14620360488663870945:=t
def tw14607139386942630950:=t
def tw7135039630841377330:=t
def tw1033499751630915443:=t
def tw8257042276881346600:=t
def tw10322958365033400062:=t
def tw3891876730831481773:=t
def tw1226418477331458042:=t
def tw5461221547690709719:=t
def tw16718381336900437163:=t
def tw2182914243684800272:=t
def tw5490253614504957175:=t
def tw14807736554529650715:=t
def tw17435172081289677237:=t
def tw17962693342880743129:=t
def tw16526936179419116697:=t
def tw13021862605149325488:=t
def tw13024933928060978215:=t
def tw15898057819795382787:=t
def tw16819171730578281079:=t
def tw4537959906875733074:=t
def tw13351887604182765614:=t
def tw9424055379572335302:=t
def tw3571977363357799772:=t
def tw9582195539784066838:=t
def tw18304282422288232398:=t
def tw5583440631370271924:=t
def tw1914847641180039549:=t
def tw16912918334486585923:=t
def tw15823440293287959999:=t
def tw2995606876379576021:=t
def tw14660141788225610442:=t
def tw1845081504879898978:=t
def tw3613048723763088457:=t
def tw13927313985910803806:=t
def tw6766541962146989398:=t
def tw11764786753178436480:=t
def tw2327006755370131705:=t
def tw11018638130311312988:=t
def tw17354537038118722418:=t
def tw18358514048181091406:=t
def tw9490544001149394009:=t
def tw6373927247579938650:=t
def tw2595129319426651429:=t
def tw5557915442682849130:=t
def tw11053349686959866756:=t
def tw9093756624102659253:=t
def tw16520451192255295170:=t
def tw17160404838595676538:=t
def tw457527706767719432:=t
def tw11581865244857471001:=t
def tw14063514946084851069:=t
def tw2780204186493440661:=t
def tw3574217456663313685:=t
def tw11491651170326289305:=t
def tw14312641614775261128:=t
def tw14477511977325759049:=t
def tw11945126918994291334:=t
def tw3284772738518179605:=t
def tw7639016558914720699:=t
def tw885826236668035566:=t
def tw10119812415155896493:=t
def tw48754927886467804:=t
def tw6152160522734252302:=t
def tw17901515497256739006:=t
def tw17847768831391204200:=t
def tw18403041070672818074:=t
def tw13441843103348455440:=t
def tw8549082176466392013:=t
def tw142628044407059601:=t
def tw14691198932398373585:=t
def tw1504182213147869731:=t
def tw17294611269351583056:=t
def tw13600084177956761766:=t
def tw5811743976184054237:=t
def tw9403113264843117490:=t
def tw9750948431038216175:=t
def tw1146076921495919652:=t
def tw6386545368170087953:=t
def tw13833380551213525671:=t
def tw1390458683582544609:=t
def tw5085350907984961914:=t
def tw10511869907023635245:=t
def tw7378236560723951105:=t
def tw15392231222987709563:=t
def tw9407776182172614165:=t
def tw18177997148526350493:=t
def tw1131429659748529643:=t
def tw14629915113247941931:=t
def tw8122478936484499766:=t
def tw16371392872154639530:=t
def tw17238939669379143259:=t
def tw4986338113356115014:=t
def tw584989014247348962:=t
def tw414562759679294243:=t
def tw9780837291807104351:=t
def tw309951042797398698:=t
def tw13071854313599083201:=t
def tw6215149654982631857:=t
def tw17266577031117400846:=t
def tw3527037602785461397:=t
def tw17955756720791087467:=t
def tw6993793250565947847:=t
def tw13034129378151639882:=t
def tw6352504109009172471:=t
def tw18322061524988508654:=t
def tw10156201479349989259:=t
def tw12159895369285011753:=t
def tw9255381026701296737:=t
def tw17313833631558430779:=t
def tw54624395748106959:=t
def tw562856929536163585:=t
def tw11176583192871589731:=t
def tw18235445844866937377:=t
def tw6299985726327260672:=t
def tw5742769153841272474:=t
def tw9124789596529470576:=t
def tw12078497457335180806:=t
def tw17310990788128664299:=t
def tw14241158299817304559:=t
def tw15287255340671264562:=t
def tw7155945842957931993:=t
def tw9571303346642583013:=t
def tw3242375341233177113:=t
def tw6154711074306163346:=t
def tw6669620458499435941:=t
def tw1334980441659360677:=t
def tw12777278847698530213:=t
def tw2116720005017920730:=t
def tw32355319686186455:=t
def tw4302227607682175931:=t
def tw15177438009075865829:=t
def tw16206424840667565809:=t
def tw9104119908592409570:=t
def tw18237072304674384626:=t
def tw3941297593530416907:=t
def tw15834302717033001847:=t
def tw8972665041066342519:=t
def tw10610247465675903014:=t
def tw7080495451377499322:=t
def tw794687840671881412:=t
def tw16984369086418760014:=t
def tw8435212787121459052:=t
def tw7748421774019381747:=t
def tw3323324082455281012:=t
def tw10045558329848652695:=t
def tw8922737986698808965:=t
def tw16885693638990387078:=t
def tw1098967469271117002:=t
def tw8531678188413085382:=t
def tw17246750701458122112:=t
def tw4292418747952784352:=t
def tw4632323913975178507:=t
def tw16304720655191717708:=t
def tw6219144789993451084:=t
def tw12467588671810067014:=t
def tw12699763413323667972:=t
def tw16082729934227420550:=t
def tw5113030871402949296:=t
def tw1020539749309318093:=t
def tw8526228909761170288:=t
def tw15409883754406421462:=t
def tw11649598938307598638:=t
def tw16969245413484834334:=t
def tw11146446346992728972:=t
def tw17538999841779834787:=t
def tw10829397188773611251:=t
def tw452182655481189711:=t
def tw17876702139300632597:=t
def tw13791273859155972076:=t
def tw17103765925018238003:=t
def tw5325209780122891953:=t
def tw15855449507821284409:=t
def tw8752330553210648358:=t
def tw9732636924582661422:=t
def tw12969580328949320497:=t
def tw15265906162438428736:=t
def tw429892857013216141:=t
def tw15150578951389828504:=t
def tw9989217087556219154:=t
def tw14783611289028082927:=t
def tw1759465828055336760:=t
def tw1745621428190508115:=t
def tw14852601194613115519:=t
def tw8190127041022597778:=t
def tw11600822942682104060:=t
def tw15275828718421175035:=t
def tw8810397844993160668:=t
def tw2369935255205443674:=t
def tw12114160777566454779:=t
def tw18379523756397654249:=t
def tw15064389344290520189:=t
def tw2653616976149720454:=t
def tw12302290867721106851:=t
def tw16008909804364425464:=t
def tw4439544402006150128:=t
def tw6431691778502942934:=t
def tw10978234220043005316:=t
def tw8688542945962586471:=t
def tw3780581898645186428:=t
def tw14114666442885680795:=t
def tw1502250636691197175:=t
def tw13698435353207587828:=t
def tw18103560913970497594:=t
def tw622607640164402085:=t
def tw11807593633233973122:=t
def tw2983574366404592159:=t
def tw457518744948554043:=t
def tw12724064665344824563:=t
def tw1552836239011861514:=t
def tw10958061898526251337:=t
def tw5118770790565537508:=t
def tw16968551677493069235:=t
def tw1857375472293868909:=t
def tw6280932772619275603:=t
def tw9613607052806460487:=t
def tw10120152076872826597:=t
def tw1130432265092588588:=t
def tw16408625280296634321:=t
def tw4135503394082252145:=t
def tw17855414397981323664:=t
def tw6527771861658497726:=t
def tw15488820694724591095:=t
def tw11820180128163208704:=t
def tw7244722862484830395:=t
def tw8842125045999073389:=t
def tw9260364659248796941:=t
def tw14106241374569600943:=t
def tw3399857837338982096:=t
def tw15387786087142999610:=t
def tw13734315411464297367:=t
def tw17470365357820124390:=t
def tw16797514560235377179:=t
def tw14992387488274216239:=t
def tw13851700817320108718:=t
def tw13483351154145807473:=t
def tw15020245126250351686:=t
def tw12626466653521214119:=t
def tw17015039337014600370:=t
def tw13733853439507453867:=t
def tw10992275507547982476:=t
def tw1403747897331529528:=t
def tw1135837741914033959:=t
def tw6593465886873263253:=t
def tw12624693036460694092:=t
def tw5544803432058065786:=t
def tw15956992572550113205:=t
def tw8675367054379852630:=t
def tw5424155443961763861:=t
def tw1991535374772486835:=t
def tw7700224681364177580:=t
def tw17719533742715263693:=t
def tw8552007405756569778:=t
def tw2948113371736766324:=t
def tw6454208127235712921:=t
def tw5624210377855054217:=t
def tw10763166753847123324:=t
def tw3967766919267137693:=t
def tw15352735448225899928:=t
def tw14886777051148883148:=t
def tw15056088267241004857:=t
def tw5600306439495304327:=t
def tw15780243187644177842:=t
def tw10555058070441849951:=t
def tw8937653224979904466:=t
def tw9441420808778537954:=t
def tw13593958264904970567:=t
def tw6258497091606260781:=t
def tw4306312808294227762:=t
def tw789418137562239085:=t
def tw104884067014953452:=t
def tw16520730512731636827:=t
def tw22768283909874430:=t
def tw3299029750399006352:=t
def tw4994100045284796323:=t
def tw10038665932825852129:=t
def tw16078679136163938219:=t
def tw11513461661107451659:=t
def tw17560896850763921498:=t
def tw13392421417482534211:=t
def tw13998838250474780378:=t
def tw14757254351797859259:=t
def tw13029943009416347611:=t
def tw11413874987945929220:=t
def tw398585340328491888:=t
def tw2427718738088168165:=t
def tw2074478982624703384:=t
def tw16104605443832852411:=t
def tw801435857283956399:=t
def tw5400430177662387099:=t
def tw1125912568935022160:=t
def tw13812733532701302866:=t
def tw13934612339369215141:=t
def tw12203572699518956306:=t
def tw17292096623014710887:=t
def tw6419119792969559152:=t
def tw9091674384210922158:=t
def tw8358965977052732632:=t
def tw13158291731448540338:=t
def tw13099543110032559523:=t
def tw2314612913990676941:=t
def tw3750054658152337384:=t
def tw2315475498096986389:=t
def tw3419487297179677837:=t
def tw17589430316222207237:=t
def tw11699459471723462034:=t
def tw12852562561941994421:=t
def tw2969898205394505283:=t
def tw10888186306432747881:=t
def tw8808006222740341503:=t
def tw11432256010843006979:=t
def tw1558148600263715749:=t
def tw18067583152712856409:=t
def tw2697106137865142868:=t
def tw7714172586273370055:=t
def tw17087563403055827721:=t
def tw9061531934669038716:=t
def tw9990802778628587372:=t
def tw8530678675729122932:=t
def tw14501121290890259327:=t
def tw7618007077002376794:=t
def tw7183303292604663971:=t
def tw3080003828486912962:=t
def tw11980164791299549175:=t
def tw7884984065007995789:=t
def tw5966382520488004119:=t
def tw69845014955741748:=t
def tw6221974623571254248:=t
def tw17776427147932980667:=t
def tw9586276814636914588:=t
def tw754507944402641201:=t
def tw3836316481757227526:=t
def tw16209159085790101344:=t
def tw14644138590503787193:=t
def tw14340601834066596839:=t
def tw127146869063790081:=t
def tw13107697161687544356:=t
def tw5946312287134876678:=t
def tw15333295248944326561:=t
def tw9890839995736315584:=t
def tw15851905876658990976:=t
def tw1752405142278830137:=t
def tw4180294822076497223:=t
def tw3969489488664876394:=t
def tw14540582360774860662:=t
def tw6422197805351235034:=t
def tw10252164612302283408:=t
def tw7199509326338963140:=t
def tw7506211194281931297:=t
def tw12886213879815297260:=t
def tw7211187383223753630:=t
def tw4890348262345752498:=t
def tw5245411881854668468:=t
def tw6631093212783980041:=t
def tw16733097840243422339:=t
def tw16865292392427470865:=t
def tw12675502556038866707:=t
def tw5944797538051776149:=t
def tw5448354663819359882:=t
def tw1705471496241010237:=t
def tw12139102604539483606:=t
def tw11029626743325790048:=t
def tw4493193350503317625:=t
def tw5637990441406715028:=t
def tw159287142965740252:=t
def tw1403189537950215916:=t
def tw7237236314927426890:=t
def tw14245849872482879720:=t
def tw4498482156772182260:=t
def tw16035683805926257071:=t
def tw15988231094146016529:=t
def tw1340265187144381866:=t
def tw5403369100910586115:=t
def tw11118639966474914853:=t
def tw13550413950972005164:=t
def tw6674647217288960940:=t
def tw9372981398504147169:=t
def tw5643315860698860841:=t
def tw17511166961832851635:=t
def tw9413178716747579164:=t
def tw8705209721502417577:=t
def tw16150727284706412376:=t
def tw18245636789394673609:=t
def tw97066503886859719:=t
def tw16827295610724717569:=t
def tw15595471730942772621:=t
def tw2094121369058729959:=t
def tw6293880754709331343:=t
def tw17262486497245677688:=t
def tw5316945067032124186:=t
def tw4194734613267375544:=t
def tw18383937135121075126:=t
def tw10021164569417383761:=t
def tw16701292460911871413:=t
def tw8221339720213944451:=t
def tw6125521991937656726:=t
def tw15162999968885571607:=t
def tw12169064019662309912:=t
def tw16242149885175776096:=t
def tw10582378207161167858:=t
def tw13778395992544979603:=t
def tw2414831095208664619:=t
def tw18246966173522927676:=t
def tw1892976523817087169:=t
def tw9201139722768971226:=t
def tw4616132319897402670:=t
def tw14101652887296343347:=t
def tw3620777343328502911:=t
def tw18372847888562367103:=t
def tw18288445179379310481:=t
def tw7286184964230604114:=t
def tw17521350202725326151:=t
def tw4876157271791979211:=t
def tw11469653889919702245:=t
def tw10782620699100736835:=t
def tw13925741092680526931:=t
def tw14734082256308827163:=t
def tw11833329123611908475:=t
def tw18225895480366439257:=t
def tw18380274926482585594:=t
def tw16436102821181391534:=t
def tw12865233605963389815:=t
def tw4440358616794918110:=t
def tw3510928955929840563:=t
def tw14654421231791384034:=t
def tw14232460034204095206:=t
def tw3546923591974542956:=t
def tw6743037820349975304:=t
def tw15419482909785303390:=t
def tw341593526841832737:=t
def tw17559342819423080968:=t
def tw5691102629231549898:=t
def tw1953698564314113785:=t
def tw368908925900352398:=t
def tw15796286215252418509:=t
def tw14771896260412312321:=t
def tw15914076957772812619:=t
def tw1218212732733852346:=t
def tw17458828150068892590:=t
def tw7017096231853836277:=t
def tw13115787889701682344:=t
def tw6605691833401762155:=t
def tw12676158927498270312:=t
def tw15256002694630056523:=t
def tw2884230176491480517:=t
def tw2638482433255807481:=t
def tw10163947563427613488:=t
def tw16806876490678270834:=t
def tw16171744820855374748:=t
def tw8742563984736908842:=t
def tw5480788543327764155:=t
def tw380200863455781549:=t
def tw3516287868627531703:=t
def tw18316181791097507756:=t
def tw10813943750370881514:=t
def tw2080390337559043756:=t
def tw17940911296407511444:=t
def tw11903559767375017042:=t
def tw7352191680000027287:=t
def tw17565300875298351247:=t
def tw2406296380568136299:=t
def tw13856372074095002489:=t
def tw10705530365703048382:=t
def tw2414859108565795626:=t
def tw7988812048844217286:=t
def tw15696342869444661554:=t
def tw5557995504869023122:=t
def tw837565131424322801:=t
def tw16876553808035281604:=t
def tw15822812310848506154:=t
def tw12718350436894167792:=t
def tw8841606510774778071:=t
def tw5641305116836205541:=t
def tw5066215088719465256:=t
def tw9916323128183811396:=t
def tw13344610629048634619:=t
def tw10357352258745110110:=t
def tw4518152850210188525:=t
def tw11541251369732306535:=t
def tw14788224890498955541:=t
def tw16744648736833948651:=t
def tw13592242033131730126:=t
def tw15860229848463306847:=t
def tw5151985379693527851:=t
def tw7282802242338147042:=t
def tw4927802946300926127:=t
def tw5325651562330977666:=t
def tw10729482294356522063:=t
def tw10709813818234275698:=t
def tw1604226852471367579:=t
def tw10675172160714725589:=t
def tw8787277600086613460:=t
def tw10184352538394958869:=t
def tw13102099433813416615:=t
def tw5321794489050659919:=t
def tw9155919313741575041:=t
def tw7174727883470747943:=t
def tw193571918013311426:=t
def tw13291003714854902065:=t
def tw13681693797635472167:=t
def tw8751475730036862175:=t
def tw9574272597735347388:=t
def tw6871398789402401720:=t
def tw7508502054888978353:=t
def tw17424330005352351511:=t
def tw5893858511467226797:=t
def tw10484528207501291063:=t
def tw5912635679033889272:=t
def tw1160561500799015356:=t
def tw9325671517713327786:=t
def tw9466285220333191063:=t
def tw4014933723179095432:=t
def tw13446542213526996956:=t
end PySem.W.Fast
set_option hygiene true
local macro_rules|`(tactic| walk_at "a")=>`(tactic| (refine' L3.FQ ?a ?l ?c ?k;(case a=>k_is);(case l=>k_is);(case c=>k_is);(case k=>k_is)))
local macro_rules|`(tactic| walk_at "d")=>`(tactic| (refine' L3.FU ?l ?c ?k ?n;(case l=>k_is);(case c=>k_is);(case k=>k_is);(case n=>k_is)))
local macro_rules|`(tactic| walk_at "e")=>`(tactic| (refine' L3.DQ ?ns ?g1 ?g2 ?g3 ?g4 ?m1 ?m2 ?m3 ?m4 ?na;(case ns=>k_is);(case g1=>k_is);(case g2=>k_is);(case g3=>k_is);(case g4=>k_is);(case m1=>k_is);(case m2=>k_is);(case m3=>k_is);(case m4=>k_is);(case na=>(refine' L3.JO ?x ?y ?z;(case x=>k_is);(case y=>k_is);(case z=>k_is)))))
local macro_rules|`(tactic| walk_at "f")=>`(tactic| (refine' L3.DQ ?ns ?g1 ?g2 ?g3 ?g4 ?m1 ?m2 ?m3 ?m4 ?na;(case ns=>k_is);(case g1=>k_is);(case g2=>k_is);(case g3=>k_is);(case g4=>k_is);(case m1=>k_is);(case m2=>k_is);(case m3=>k_is);(case m4=>k_is);(case na=>(refine' L3.JP ?x ?y ?z ?u ?x1 ?y1 ?z1 ?u1;(case x=>k_is);(case y=>k_is);(case z=>k_is);(case u=>k_is);(case x1=>k_is);(case y1=>k_is);(case z1=>k_is);(case u1=>k_is)))))
local macro_rules|`(tactic| walk_at "c")=>`(tactic| (refine' L3.FW ?tl ?a ?l ?g1 ?g2 ?g3 ?g4;(case a=>k_is);(case l=>k_is);(case tl=>(first|exact L3.JN|exact L3.JM));(case g1=>k_is);(case g2=>k_is);(case g3=>k_is);(case g4=>k_is)))
open PySem PySem.W PyProof.Rows
set_option maxRecDepth 100000 in
set_option maxHeartbeats 0 in
theorem PySem.Challenge.cw_rowsbeneath_k06_read_as_told_holds : PySem.Challenge.rw_rowsbeneath_k06_read_as_told.Holds := by
 w_on;o_law;k_head;(case hw=>w_witness2)
 k_fill
 refine L2.AE (l:=PySem.Challenge.rw_rowsbeneath_k06_read_as_told) (n:=63) (k:=28) (x:="_law_script") (tx:="_law_right") (CX:=L2.bZ) (sp:=L3.uK) rfl (by decide) rfl ⟨rfl,by decide,by decide⟩ (fun w h Y=>PySem.W.km_in_of Y) (fun w=>by kernel_rfl) rfl (fun w=>by kernel_rfl) ?F (fun _ T H a ns hl hS hT=>⟨a,ns,rfl,hS,hl,⟨#[],hT,trivial,fun _ _ e=>nomatch e⟩,fun _=>rfl⟩) (fun _ _ _ _ z=>z);case F=>
  intro w mg fa c T h KX G hmg ht;refine' L3.FY KX G hmg ht ..;any_goals first|walk_at "a"|walk_at "d"|walk_at "c"|walk_at "e"|walk_at "f"|(refine' L3.kq ?h;(case h=>k_is))|(refine' L3.De ?h;(case h=>k_is))|(refine' L3.nu ?h;(case h=>k_is))|(refine' L3.qu ?h;(case h=>k_is))|(refine' L3.Bc ?h;(case h=>k_is))|(refine' L3.FX ?h;(case h=>k_is))|k_is|rfl
