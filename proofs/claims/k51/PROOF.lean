import PyProof.Rows.All
import Wide.All
import OpenK.AllK
import Wide.FinOn
import Lean
import PyProof.EqAt
import PyProof.EqKinds
import PyProof.TupleCall
import PySem.Challenge.RW_rowsbeneath_k51_ways_of_rows
set_option Elab.async false
set_option linter.all false
set_option maxRecDepth 100000
set_option autoImplicit true
set_option relaxedAutoImplicit true
set_option maxHeartbeats 0
abbrev ZF:=PySem.W.Frag
section
open PySem PySem.Spec PyProof.Rows
abbrev Uk:=PySem.Value
abbrev Ul:=PySem.Addr
abbrev Um:=PySem.Shared
abbrev Uo:=PySem.Program
abbrev Up:=PySem.World
abbrev Uq:=PySem.Around
abbrev Ur:=PySem.FuncData
abbrev Us:=List Str
abbrev Ut:=List Nat
abbrev Uu:=List (Str×Str)
def a_:=@decide_eq_true
def b_:=@decide_eq_false
def c_:=@PySem.wpAny_bind
def d_:=@congrArg
def e_:=@if_neg
def f_:=@if_pos
def g_:=@PySem.PassesOwn.never
def h_:=@of_decide_eq_true
def i_:=@PySem.wpAny_pure
def j_:=@or_false
def k_:=@List.take_add_one
def l_:=@PySem.Heap.SameBut.update
def m_:=@PySem.Heap.get?_update_self
def n_:=@PySem.wpAny_truthy_bool
def o_:=@List.replicate_succ
def p_:=@PySem.wpAny_field
def q_:=@PySem.wpAny_mono
def r_:=@PySem.wpAny_callSpecial?_slot
def s_:=@PySem.wpAny_passesOwn
def t_:=@Nat.le_add_right
def u_:=@PySem.F.slot_tuple_iterator_next
def v_:=@PySem.wpAny_setField
def w_:=@PySem.wpAny_seqItems
def x_:=@PySem.wpAny_loadPart'
def y_:=@PySem.wpAny_Call_Name_kw
def z_:=@PySem.tupleKind_room_in1
def A_:=@PySem.F.slot_zip_next
def B_:=@PyProof.Rows.boot_max
def C_:=@List.replicate_succ'
def D_:=@List.forIn_cons
def E_:=@List.map_congr_left
def F_:=@PySem.wpAny_call_entry
def G_:=@Int.fdiv_eq_ediv_of_nonneg
def H_:=@decide_eq_true_iff
def I_:=@PySem.wpAny_pyIter_tuple
def J_:=@if_true
def K_:=@PySem.wpAny_pyIter_enum
def L_:=@List.foldl_cons
def M_:=@PySem.F.slot_dict_get
def N_:=@List.getElem?_eq_none
def O_:=@Nat.mul_le_mul_right
def Pi:=@Ne.symm
def P_:=@Prod.mk.inj
def Q_:=@Nat.one_mul
def RD:=@Nat.add_mul
def RE:=@Int.one_mul
def RG:=@PySem.W.plainGet_of
def RH:=@List.take_succ_cons
def RI:=@List.getElem_of_mem
def RJ:=@List.flatMap_append
def RK:=@Array.length_toList
def RL:=@PySem.wpAny_execs_nil
def RO:=@List.all_cons
def RP:=@PySem.W.callWith_K
def RQ:=@Int.emod_lt_of_pos
def RR:=@decide_eq_true_eq
def RS:=@Option.isSome_map
def RU:=@List.take_sublist
def RV:=@List.ext_getElem?
def RW:=@PySem.Calls.evalArgs_plain
def RX:=@Nat.zero_add
def RY:=@Nat.ne_of_gt
def RZ:=@Nat.add_comm
def R0:=@beq_self_eq_true
def R1:=@PySem.wpAny_standAt
def R3:=@Sum.inr.inj
def R4:=@Nat.max_eq_left
def R5:=@List.of_mem_zip
def R6:=@Int.emod_nonneg
def R7:=@PySem.Calls.spliced_cons
def R8:=@PySem.F.slot_enumerate_next
def R9:=@PySem.call_meets
def R_:=@PySem.wpAny_pyIter_list
def Sa:=@PySem.wpAny_newObj_type
def Sb:=@List.take_zero
def Se:=@List.drop_zero
def Sg:=@PySem.codeAny_mono
def Sh:=@List.getElem?_take_of_lt
abbrev Si:Str:="_law_table_here"
abbrev Sj:Str:="_law_stream_here"
abbrev Sk:Str:="_law_fields"
abbrev Sl:Str:="_law_operands_here"
abbrev Sm:Str:="self"
abbrev Sn:Str:="place"
abbrev So:Str:="places"
abbrev Sq:Str:="_law_deed_here"
abbrev Sr:Str:="width"
abbrev Ss:Str:="marks"
abbrev Su:Str:="mark"
abbrev Sv:Str:="reader"
abbrev Sw:Str:="cells"
abbrev Sx:Str:="depth"
abbrev Sy:Str:="fault"
abbrev Sz:Str:="names"
abbrev SA:Str:="thing"
abbrev SB:Str:="_law_many"
abbrev SD:Str:="_law_words_here"
abbrev SE:Str:="word"
abbrev SF:Str:="kind"
abbrev SH:Str:="call"
abbrev SJ:Str:="_law_sort"
abbrev SK:Str:="_law_deep"
abbrev SM:Str:="_law_sel_here"
abbrev SN:Str:="kinds_known"
abbrev SQ:Str:="table"
abbrev SS:Str:="gate"
abbrev SU:Str:="_law_state"
abbrev SV:Str:="brackets"
abbrev SW:Str:="_law_name"
abbrev SX:Str:="words"
abbrev SY:Str:="sel"
abbrev SZ:Str:="_law_names_here"
abbrev S0:Str:="_law_script"
abbrev S1:Str:="high"
abbrev S2:Str:="row"
abbrev S3:Str:="_law_rows"
abbrev S4:Str:="next"
abbrev S5:Str:="kinds"
abbrev S6:Str:="_law_tests_here"
abbrev S7:Str:="tokens"
abbrev S9:Str:="_law_choices"
abbrev S_:Str:="operands"
abbrev Ta:Str:="top"
abbrev Te:Str:="_law_number_here"
abbrev Tf:Str:="back"
abbrev Tg:Str:="stop"
abbrev Th:Str:="_law_first"
abbrev Ti:Str:="_law_way"
abbrev Tj:Str:="_law_ahead"
abbrev Tk:Str:="_law_k"
abbrev Tl:Str:="choices"
abbrev Tn:Str:="test"
abbrev To:Str:="deed"
abbrev Tp:Str:="fields"
abbrev Tq:Str:="sort"
abbrev Tr:Str:="_law_cell_here"
abbrev Ts:Str:="go"
abbrev Tu:Str:="text"
abbrev Tv:Str:="cell_free"
abbrev Tw:Str:="_law_test"
abbrev Tz:Str:="_law_due_here"
abbrev TB:Str:="_law_inner"
abbrev TD:Str:="else"
abbrev TH:Str:="_law_most"
abbrev TJ:Str:="_law_head"
abbrev TM:Str:="_law_told"
abbrev TQ:Str:="_law_kind"
abbrev TU:Str:="low"
abbrev TV:Str:="deep"
abbrev TY:Str:="bare"
abbrev TZ:Str:="given"
abbrev T0:Str:="state"
abbrev T9:Str:="_law_found"
abbrev T_:Str:="spot"
abbrev Ua:Str:="rows"
abbrev Ub:Str:="if"
abbrev Uc:Str:="sorts"
abbrev Ud:Str:="_law_e"
abbrev Ue:Str:="pile"
abbrev Uf:Str:="many"
abbrev Ug:Str:="way"
abbrev Uh:Str:="token"
abbrev Ui:Str:="body"
abbrev Uj:Str:="at"
def Kx:=@List.getElem?_eq_some_iff
def Ky:=@List.length_map
def Kz:=@List.length_append
def KB:=@List.mem_cons_self
def KC:=@List.length_cons
def KE:=@Heap.get?_push_of_some
def KF:=@List.getElem?_eq_getElem
def KG:=@List.length_take
def KH:=@List.mem_cons
def KJ:=@List.map_append
def KM:=@List.mem_cons_of_mem
def KO:=@Nat.le_refl
def KP:=@List.getD_eq_getElem?_getD
def KQ:=@List.mem_of_getElem?
def KR:=@PySem.F.type_list_append
def KS:=@PySem.F.slot_list_append
def KU:=@PySem.F.plainAttrs_list
def KW:=@PySem.boot_len
def KY:=@List.not_mem_nil
def KZ:=@List.getElem?_map
def K0:=@Nat.pow_le_pow_right
def K1:=@Heap.lt_size
def K2:=@List.map_cons
def K3:=@List.length_nil
def K4:=@List.mem_map
def K5:=@Bool.false_ne_true
def K6:=@List.mem_append_right
def K7:=@List.take_length
def K8:=@List.size_toArray
def K9:=@Heap.get?_push_size
def La:=@List.mem_append
def Lb:=@List.mem_singleton
def Lc:=@Option.some.inj
def Ld:=@PySem.W.mg_of
def Le:=@List.append_assoc
def Lf:=@Nat.lt_of_lt_of_le
def Lg:=@List.contains_iff_mem
def Lh:=@Nat.zero_le
def Li:=@List.all_eq_true
def Lj:=@List.take_succ
def Lk:=@Nat.ne_of_lt
def Ll:=@Nat.le_trans
def Lm:=@List.append_nil
def Ln:=@PySem.W.mg_none_of
def Lo:=@List.getElem_mem
def Lp:=@List.length_replicate
def Lq:=@List.drop_eq_getElem_cons
def Lr:=@PySem.F.plainAttrs_str
def Ls:=@List.length_drop
def Lu:=@Int.toNat_natCast
def Lv:=@PySem.F.type_str_join
def Lw:=@PySem.F.slot_str_join
def Ly:=@List.take_append_drop
def Lz:=@List.map_map
def LB:=@List.take_of_length_le
def LC:=@PyProof.Rows.boot_int
def LG:=@List.mem_range
def LI:=@List.mem_append_left
def LJ:=@Bool.eq_iff_iff
def LK:=@PySem.W.kia_one
def LL:=@PyProof.Rows.callWith_type1
def LM:=@List.cons_append
def LP:=@List.map_nil
def LQ:=@List.lookup_cons
def LU:=@List.flatten_cons
def LV:=@List.length_pos_iff
def LX:=@List.mem_of_mem_take
def LY:=@List.filter_cons_of_pos
def LZ:=@List.flatMap_cons
def L0:=@List.getElem?_append_right
def L9:=@Heap.size_push
def Ma:=@List.getElem?_append_left
def Mb:=@Bool.eq_false_iff
def Mc:=@List.length_eq_zero_iff
def Md:=@List.filterMap_cons
def Me:=@PySem.mem_of_lookup
def Mf:=@Nat.lt_irrefl
def Mg:=@Bool.and_eq_true
def Mh:=@Calls.callWith_builtin
def Mi:=@List.mem_filter
def Mj:=@List.nodup_cons
def Ml:=@List.find?_cons
def Mm:=@Nat.pow_succ
def Mn:=@Nat.lt_succ_self
def Mo:=@List.range_succ
def Mp:=@Nat.min_eq_left
def Mq:=@List.filter_append
def Mr:=@List.filter_cons_of_neg
def Ms:=@List.nodup_append
def Mt:=@Nat.pow_pos
def Mu:=@List.mem_flatMap
def Mv:=@List.sum_cons
def Mw:=@List.any_cons
def Mx:=@Nat.mod_lt
def My:=@List.nil_append
def Mz:=@Option.map_some
def MA:=@List.all_map
end
set_option hygiene false in
local macro_rules|`(tactic| walk_at "l")=>`(tactic| first|(cases h;subst_vars;rfl)|((repeat rcases h with⟨_,h⟩)<;>(subst_vars;rfl)))
set_option hygiene false in
local macro_rules|`(tactic| walk_at "o")=>`(tactic| refine F.ok ZZ (fun vs H Q E h=>by walk_at "l") (fun MN A outer s H vs Q E hr h=>?_))
def zk{p:Prop}(h:p:=by decide +kernel):p:=h
def zo{p:Prop}(h:p:=by lia):p:=h
def zd{p:Prop}(h:p:=by decide):p:=h
def OT(h:Nat.ble n 1000=true:=by rfl):n<=PySem.sizeLine:=Nat.le_trans (Nat.le_of_ble_eq_true h) zd
namespace L2
open PySem PySem.Spec PyProof.Rows
abbrev cQ:=Sum Int Str
def m7:cQ->Uk->Bool
 |.inl k,v=>Value.isInt k v
 |.inr x,v=>Value.isStrOf x v
def II(w:Up):cQ->Int
 |.inl k=>hashInt k
 |.inr x=>hashStr w x
def cw:∀{k:cQ}{v:Uk},m7 k v=true->(∃i t,k=Sum.inl i/\v=Value.int i t)\/(∃x t,k=Sum.inr x/\v=Value.str x t)
 |.inl i,v,h=>by
  obtain⟨t,e⟩:=Value.isInt_shape (k:=i) (v:=v) h;exact .inl ⟨i,t,rfl,e⟩
 |.inr x,v,h=>by
  obtain⟨t,e⟩:=Value.isStrOf_shape (x:=x) (v:=v) h;exact .inr ⟨x,t,rfl,e⟩
def wG(i:Int)(t:Tok):m7 (.inl i) (.int i t)=true:=by simp[m7,Value.isInt]
def wH(x:Str)(t:Tok):m7 (.inr x) (.str x t)=true:=by simp[m7,Value.isStrOf]
def D2(a b:Int):decide ((Sum.inl a:cQ)=Sum.inl b)=(a==b):=by
 by_cases e:a=b
 ·subst e;simp
 ·have h:¬(Sum.inl a:cQ)=Sum.inl b:=fun q=>e (Sum.inl.inj q);rw[b_ h];exact(beq_eq_false_iff_ne.mpr e).symm
def D3(a b:Str):decide ((Sum.inr a:cQ)=Sum.inr b)=decide (a=b):=by
 by_cases e:a=b
 ·subst e;simp
 ·have h:¬(Sum.inr a:cQ)=Sum.inr b:=fun q=>e (R3 q);rw[b_ h,b_ e]
def D5(a:Int)(b:Str):decide ((Sum.inl a:cQ)=Sum.inr b)=false:=b_ (fun q=>nomatch q)
def D6(a:Str)(b:Int):decide ((Sum.inr a:cQ)=Sum.inl b)=false:=b_ (fun q=>nomatch q)
def cy(prog:Uo)(w:Up):PySem.KeyKind prog w cQ where
 is:=m7
 hash:=II w
 inj:=fun v a b ha hb=>by
  rcases cw ha with⟨i,t,rfl,rfl⟩|⟨x,t,rfl,rfl⟩
  ·rcases cw hb with⟨j,u,rfl,e⟩|⟨y,u,rfl,e⟩
   ·injection e with e1 _;rw[e1]
   ·exact nomatch e
  ·rcases cw hb with⟨j,u,rfl,e⟩|⟨y,u,rfl,e⟩
   ·exact nomatch e
   ·injection e with e1 _;rw[e1]
 byValue:=fun k v h=>by
  rcases cw h with⟨i,t,rfl,rfl⟩|⟨x,t,rfl,rfl⟩<;>rfl
 pyHash:=fun hv h=>by
  rcases cw hv with⟨i,t,rfl,rfl⟩|⟨x,t,rfl,rfl⟩
  ·exact wpAny_pyHash_int h
  ·exact wpAny_pyHash_str h
 eqBool:=fun hu hv h=>by
  rcases cw hu with⟨i,t,rfl,rfl⟩|⟨x,t,rfl,rfl⟩
  ·rcases cw hv with⟨j,u,rfl,rfl⟩|⟨y,u,rfl,rfl⟩
   ·rw[D2]at h;exact wpAny_eqBool_int h
   ·rw[D5]at h;exact SeqAt.EqAt.int_str i t y u _ _ _ _ h
  ·rcases cw hv with⟨j,u,rfl,rfl⟩|⟨y,u,rfl,rfl⟩
   ·rw[D6]at h;exact SeqAt.EqAt.str_int x t j u _ _ _ _ h
   ·rw[D3]at h;exact wpAny_eqBool_str h
 «strs»:=fun k x t v h=>by
  rcases cw h with⟨i,u,rfl,e⟩|⟨y,u,rfl,e⟩
  ·exact nomatch e
  ·injection e with e1 _;subst e1;cases v<;>rfl
def qJ(prog:Uo)(w:Up)(i:Int)(t:Tok):(cy prog w).is (.inl i) (.int i t)=true:=wG i t
def qK(prog:Uo)(w:Up)(x:Str)(t:Tok):(cy prog w).is (.inr x) (.str x t)=true:=wH x t
inductive V where
 |non|bl (b:Bool)|int (i:Int)|str (x:Str)|byt (b:Array UInt8)|flt (b:UInt64)|ref (a:Ul)|ty (n:String)
 deriving DecidableEq
abbrev Uv:=List V
def OW:V->Uk->Prop
 |.non,u=>u=Value.none
 |.bl b,u=>u=Value.bool b
 |.int i,u=>∃t,u=Value.int i t
 |.str x,u=>∃t,u=Value.str x t
 |.byt b,u=>∃t,u=Value.bytes b t
 |.flt b,u=>∃t,u=Value.float b t
 |.ref a,u=>u=Value.ref a
 |.ty n,u=>u=Value.type n
abbrev OV:Uv->List Uk->Prop:=Paired OW
variable{us:List Uk}{xs:Uv}
def OV.length(r:OV xs us):xs.length=us.length:=Paired.length r
def OV.get:∀{xs:Uv}{us:List Uk}{i:Nat}{x:V},OV xs us->xs[i]?=some x->∃u,us[i]?=some u/\OW x u
 |_,_,_,_,.nil,e=>by simp at e
 |_,_,0,_,.cons r _,e=>by simp at e;subst e;exact⟨_,rfl,r⟩
 |_,_,i+1,x,.cons _ t,e=>by
  obtain⟨u,h1,h2⟩:=OV.get (i:=i) (x:=x) t (by simpa using e);exact⟨u,by simpa using h1,h2⟩
variable{u:Uk}{x:V}
def OV.set(r:OW x u):∀{xs:Uv}{us:List Uk}(i:Nat),OV xs us->OV (xs.set i x) (us.set i u)
 |_,_,_,.nil=>.nil
 |_,_,0,.cons _ t=>.cons r t
 |_,_,i+1,.cons q t=>.cons q (OV.set r i t)
def OV.append:∀{xs ys:Uv}{us ws:List Uk},OV xs us->OV ys ws->OV (xs++ys) (us++ws)
 |_,_,_,_,.nil,s=>s
 |_,_,_,_,.cons r t,s=>.cons r (OV.append t s)
def OV.take:∀{xs:Uv}{us:List Uk}(n:Nat),OV xs us->OV (xs.take n) (us.take n)
 |_,_,0,_=>.nil
 |_,_,_+1,.nil=>.nil
 |_,_,n+1,.cons r t=>.cons r (OV.take n t)
def OV.drop:∀{xs:Uv}{us:List Uk}(n:Nat),OV xs us->OV (xs.drop n) (us.drop n)
 |_,_,0,r=>r
 |_,_,_+1,.nil=>.nil
 |_,_,n+1,.cons _ t=>OV.drop n t
def Pu:Option V->Option Uk->Prop
 |some v,some u=>OW v u
 |none,none=>True
 |_,_=>False
def KV{κ:Type}:List (κ×V)->List (κ×Uk)->Prop:=Paired fun(p:κ×V)(q:κ×Uk)=>p.1=q.1/\OW p.2 q.2
def kV:cQ->V
 |.inl i=>.int i
 |.inr x=>.str x
inductive HO where
 |lst (xs:Uv)
 |tup (xs:Uv)
 |dK (kvs:List (cQ×V))|dT (kvs:List (List cQ×V))
 |set (S:Int->Bool) (n:Nat)
 |ins (C dx:Ul) (fs:List (Str×V))
 |own (x:Ul)
 |xd (fs:List (Str×V))
 |met (f x:Ul)
 |rng (lo hi:Int)
 |frz (o:Obj) (u:HO)
 |tbl (ps:Array Uk)
 |ext (φ:Heap->Prop)
abbrev Hp:=Ul->Option HO
def aM(H:Hp)(a:Ul)(o:HO):Hp:=fun b=>if b=a then some o else H b
variable{o:HO}{a:Ul}{H:Hp}
def ae:aM H a o a=some o:=by unfold aM;rw[f_ rfl]
variable{b:Ul}
def au(h:b≠a):aM H a o b=H b:=by unfold aM;rw[e_ h]
def GC{o u:HO}(h:H a=some o)(h':H b=some u)(d:o≠u):a≠b:=by
 intro e;subst e;rw[h]at h';exact d (Lc h')
def ao(h:H a=some o)(h':H b=none):a≠b:=by
 intro e;subst e;rw[h]at h';cases h'
def QA(h:Heap)(a:Ul)(MQ:Array Uk):Prop:=∃o,h.get? a=some o/\(o.cls,o.dict)=(Value.type "tuple",none)/\∃n,o.data=Data.seq MQ n
variable{MQ:Array Uk}{h:Heap}
def QA.up(p:QA h a MQ):IsTup h a MQ:=by obtain⟨o,e,c,d⟩:=p;exact ⟨o,e,(P_ c).1,d⟩
def QA.lt(p:QA h a MQ):a<h.objs.size:=let⟨_,e,_⟩:=p;K1 e
def QA.new(h:Heap)(MQ:Array Uk):QA (h.push {cls:=.type "tuple",data:=.seq MQ}) h.objs.size MQ:=⟨_,K9 _ rfl,rfl,_,rfl⟩
section
variable(P:Uo)(w:Up)
def O2(H:Hp)(h:Heap)(a:Ul):HO->Prop
 |.lst xs=>xs.length<=sizeLine/\∃(f':List Uk)(n:Nat),OV xs f'/\h.get? a=some {cls:=.type "list",data:=.seq f'.toArray n}
 |.tup xs=>xs.length<=sizeLine/\∃f':List Uk,OV xs f'/\QA h a f'.toArray
 |.dK kvs=>kvs.length<=sizeLine/\(a==sysModules)=false/\∃vs,KV kvs vs/\h.DictOf (cy P w) a vs
 |.dT kvs=>kvs.length<=sizeLine/\(a==sysModules)=false/\∃xs:List (List cQ×Ul×Uk),
   Paired (fun(p:List cQ×V)(q:List cQ×Ul×Uk)=>p.1=q.1/\H q.2.1=some (.tup (p.1.map kV))/\OW p.2 q.2.2) kvs xs /\
   ∃o es ep,h.get? a=some o/\o.ExactDict/\o.data=.dict es ep/\es.toList=xs.map (entryOfKey (tupleKind (cy P w)))/\(xs.map (·.1)).Nodup
 |.set S n=>h.SetOf (intKind P w) a S n
 |.ins C dx fs=>H dx=some (.own a)/\fs.length<=1000/\dx≠a/\h.get? a=some (PySem.W.instObj C dx) /\
   ∃mA,h.Ns1 dx mA/\(∀f,Pu (fs.lookup f) (mA f))/\PySem.Within mA (fs.map (·.1))
 |.own _=>∃o,h.get? a=some o
 |.xd fs=>∃mA,h.Ns1 a mA/\∀f,Pu (fs.lookup f) (mA f)
 |.rng lo hi=>∃t u v,h.get? a=some {cls:=.type "range",data:=.fields #[.int lo t,.int hi u,.int 1 v]}
 |.frz o u=>h.get? a=some o/\O2 H h a u
 |.tbl ps=>h.get? a=some {cls:=.none,data:=.fields ps}
 |.met f x=>h.get? a=some (PySem.W.methodObj (.ref f) (.ref x))
 |.ext φ=>φ h/\(∃o,h.get? a=some o)/\∀h1 h2:Heap,φ h1->(∀o,h1.get? a=some o->h2.get? a=some o)->φ h2
def PJ(H:Hp)(h:Heap):Prop:=∀a o,H a=some o->O2 P w H h a o
end
section
variable{P:Uo}{w:Up}{H H':Hp}{h h':Heap}{a:Ul}{o:HO}
def O2.lt(x:O2 P w H h a o):a<h.objs.size:=by
 cases o with
 |lst xs=>obtain⟨_,_,_,_,e⟩:=x;exact K1 e
 |tup xs=>obtain⟨_,_,_,p⟩:=x;exact p.lt
 |dK kvs=>obtain⟨_,_,_,_,o,_,_,e,_⟩:=x;exact K1 e
 |dT kvs=>obtain⟨_,_,_,_,o,_,_,e,_⟩:=x;exact K1 e
 |set S n=>obtain⟨o,_,_,_,e,_⟩:=x;exact K1 e
 |ins C dx fs=>obtain⟨_,_,_,e,_⟩:=x;exact K1 e
 |own y=>obtain⟨_,e⟩:=x;exact K1 e
 |xd fs=>obtain⟨_,⟨_,_,_,e,_⟩,_⟩:=x;exact K1 e
 |rng lo hi=>obtain⟨_,_,_,e⟩:=x;exact K1 e
 |frz ob u=>obtain⟨e,_⟩:=x;exact K1 e
 |tbl ps=>exact K1 (show h.get? a=some _ from x)
 |met f y=>exact K1 (show h.get? a=some _ from x)
 |ext φ=>obtain⟨_,⟨_,e⟩,_⟩:=x;exact K1 e
def Paired.mapP{α β:Type}{F G:α->β->Prop}:∀{l₁:List α}{l₂:List β},Paired F l₁ l₂->(∀a b,F a b->G a b)->Paired G l₁ l₂
 |_,_,.nil,_=>.nil
 |_,_,.cons r t,f=>.cons (f _ _ r) (Paired.mapP t f)
def O2.stay(x:O2 P w H h a o)(k:∀b u,(b=a\/H b=some (.own a))->h.get? b=some u->h'.get? b=some u)
  (ho:∀b,H b=some (.own a)->H' b=some (.own a)) (ht:∀b xs,H b=some (.tup xs)->H' b=some (.tup xs)):O2 P w H' h' a o:=by
 induction o with
 |lst xs=>obtain⟨z,f',n,r,e⟩:=x;exact⟨z,f',n,r,k _ _ (.inl rfl) e⟩
 |tup xs=>obtain⟨z,f',r,ob,e,c⟩:=x;exact⟨z,f',r,ob,k _ _ (.inl rfl) e,c⟩
 |dK kvs=>obtain⟨z,y,vs,r,ob,es,ep,e,c⟩:=x;exact⟨z,y,vs,r,ob,es,ep,k _ _ (.inl rfl) e,c⟩
 |dT kvs=>
  obtain⟨z,y,xs,r,ob,es,ep,e,c⟩:=x;exact⟨z,y,xs,Paired.mapP r fun p q z=>⟨z.1,ht _ _ z.2.1,z.2.2⟩,ob,es,ep,k _ _ (.inl rfl) e,c⟩
 |set S n=>obtain⟨ob,es,ep,t,e,c⟩:=x;exact⟨ob,es,ep,t,k _ _ (.inl rfl) e,c⟩
 |ins C dx fs=>
  obtain⟨d,z,ne,e,mA,⟨od,es,ep,e2,c⟩,r⟩:=x;exact⟨ho _ d,z,ne,k _ _ (.inl rfl) e,mA,⟨od,es,ep,k _ _ (.inr d) e2,c⟩,r⟩
 |own y=>obtain⟨ob,e⟩:=x;exact⟨ob,k _ _ (.inl rfl) e⟩
 |xd fs=>obtain⟨mA,⟨od,es,ep,e,c⟩,r⟩:=x;exact⟨mA,⟨od,es,ep,k _ _ (.inl rfl) e,c⟩,r⟩
 |rng lo hi=>obtain⟨t,u,v,e⟩:=x;exact⟨t,u,v,k _ _ (.inl rfl) e⟩
 |frz ob u ih=>obtain⟨e,q⟩:=x;exact⟨k _ _ (.inl rfl) e,ih q⟩
 |tbl ps=>
  have e:h.get? a=some {cls:=.none,data:=.fields ps}:=x;show h'.get? a=some {cls:=.none,data:=.fields ps};exact k a _ (.inl rfl) e
 |met f y=>
  have e:h.get? a=some (PySem.W.methodObj (.ref f) (.ref y)):=x;show h'.get? a=some (PySem.W.methodObj (.ref f) (.ref y));exact k a _ (.inl rfl) e
 |ext φ=>obtain⟨p,⟨o,e⟩,st⟩:=x;exact⟨st _ _ p fun o q=>k _ _ (.inl rfl) q,⟨o,k _ _ (.inl rfl) e⟩,st⟩
def PJ.lt(x:PJ P w H h)(e:H a=some o):a<h.objs.size:=(x a o e).lt
def PJ.fresh(x:PJ P w H h)(e:h.objs.size<=a):H a=none:=by
 cases q:H a with
 |none=>rfl
 |some u=>exact absurd (Lf (x.lt q) e) (Mf _)
def PJ.kept(x:PJ P w H h)(k:∀b u,h.get? b=some u->h'.get? b=some u):PJ P w H h':=fun a o e=>
 (x a o e).stay (fun b u _ q=>k b u q) (fun _ q=>q) fun _ _ q=>q
def PJ.laid(x:PJ P w H h)(k:∀b u,h.get? b=some u->h'.get? b=some u)(hp:h.objs.size<=a)(new:O2 P w (aM H a o) h' a o):PJ P w (aM H a o) h':=fun b u e=>by
 have hn:=x.fresh hp;by_cases hb:b=a
 ·subst hb;rw[ae]at e;cases e;exact new
 ·rw[au hb]at e;exact(x b u e).stay (fun c v _ q=>k c v q) (fun c q=>by rw[au (ao q hn)];exact q) fun c xs q=>by rw[au (ao q hn)];exact q
end
def Rd(H:Hp)(a:Ul)(u:HO):Prop:=H a=some u\/∃o,H a=some (.frz o u)
variable{w:Up}{P:Uo}
def Rd.ok{u:HO}(r:Rd H a u)(x:PJ P w H h):O2 P w H h a u:=by
 rcases r with r|⟨o,r⟩
 ·exact x a u r
 ·obtain⟨_,q⟩:=x a _ r;exact q
def GD:Option HO->Prop
 |some (.lst _)=>True
 |some (.dK _)=>True
 |some (.dT _)=>True
 |some (.set _ _)=>True
 |some (.ins _ _ _)=>True
 |some (.ext _)=>True
 |_=>False
section
variable{P:Uo}{w:Up}{H:Hp}{h h':Heap}{x e:Ul}{o':HO}
def PJ.write(ok:PJ P w H h)(mu:GD (H x))(he:e=x\/H e=some (.own x))(k:∀b u,b≠e->h.get? b=some u->h'.get? b=some u)(YR:∃u,h'.get? e=some u)
  (new:O2 P w (aM H x o') h' x o'):PJ P w (aM H x o') h':=fun b u q=>by
 have nown:∀c y,H c=some (.own y)->c≠x:=fun c y r z=>by subst z;rw[r]at mu;exact mu
 have ntup:∀c xs,H c=some (.tup xs)->c≠x:=fun c xs r z=>by subst z;rw[r]at mu;exact mu
 by_cases hb:b=x
 ·subst hb;rw[ae]at q;cases q;exact new
 ·rw[au hb]at q;by_cases Ye:b=e
  ·have q':H b=some (.own x):=by
    rcases he with z|z
    ·exact absurd (Ye.trans z) hb
    ·rw[Ye];exact z
   rw[q]at q';cases q';obtain⟨v,hv⟩:=YR;exact⟨v,by rw[Ye];exact hv⟩
  ·refine(ok b u q).stay (fun c v hc r=>k c v ?_ r) (fun c r=>by rw[au (nown c b r)];exact r) fun c xs r=>by rw[au (ntup c xs r)];exact r
   rcases hc with rfl|hc
   ·exact Ye
   ·rintro rfl;rcases he with z|z
    ·exact nown c b hc z
    ·rw[hc]at z;cases z;exact hb rfl
end
structure Un(fs ex:List Ul)(H H':Hp)(h h':Heap):Prop where
 keep:∀b o,h.get? b=some o->H b=none->b∉fs->b∉ex->h'.get? b=some o
 slot:∀b o,h.get? b=some o->H b=none->b∈fs->b∉ex->∃sl,h'.get? b=some {o with slots:=sl}
 free:∀b o,h.get? b=some o->H b=none->b∉ex->H' b=none
 there:∀b o,h.get? b=some o->b∉ex->∃o',h'.get? b=some o'
 tups:∀b xs,H b=some (.tup xs)->H' b=some (.tup xs)
 frzs:∀b o u,H b=some (.frz o u)->H' b=some (.frz o u)
 tbls:∀b ps,H b=some (.tbl ps)->∃more,H' b=some (.tbl (ps++more))
section
variable{fs XI ex ex':List Ul}{H H1 H2:Hp}{h h1 h2 h':Heap}{a x e:Ul}{o:HO}
def Un.any(u:Un fs ex H H1 h h1){ob:Obj}(q:h.get? b=some ob)(n:H b=none)(hx:b∉ex):∃sl,h1.get? b=some {ob with slots:=sl}:=by
 by_cases hb:b∈fs
 ·exact u.slot b ob q n hb hx
 ·exact⟨ob.slots,u.keep b ob q n hb hx⟩
def Un.kept(k:∀b u,h.get? b=some u->h'.get? b=some u):Un fs ex H H h h':=
 ⟨fun b ob q _ _ _=>k b ob q,fun b ob q _ _ _=>⟨ob.slots,k b ob q⟩,fun _ _ _ n _=>n,fun b ob q _=>⟨ob,k b ob q⟩,fun _ _ q=>q,fun _ _ _ q=>q,fun _ ps q=>⟨#[],by rw[q];simp⟩⟩
def Un.refl:Un fs ex H H h h:=Un.kept fun _ _ q=>q
def Un.laid(k:∀b u,h.get? b=some u->h'.get? b=some u)(hp:h.objs.size<=a)(hn:H a=none):Un fs ex H (aM H a o) h h' where
 keep:=fun b u q _ _ _=>k b u q
 slot:=fun b u q _ _ _=>⟨u.slots,k b u q⟩
 free:=fun b u q n _=>by rw[au (Lk (Lf (K1 q) hp))];exact n
 there:=fun b u q _=>⟨u,k b u q⟩
 tups:=fun b xs q=>by rw[au (ao q hn)];exact q
 frzs:=fun b u xs q=>by rw[au (ao q hn)];exact q
 tbls:=fun b ps q=>⟨#[],by rw[au (ao q hn),q];simp⟩
def Un.write(mu:GD (H x))(he:e=x\/H e=some (.own x))(k:∀b u,b≠e->h.get? b=some u->h'.get? b=some u)(YR:∃u,h'.get? e=some u):Un fs ex H (aM H x o) h h':=by
 have hx:∀b,H b=none->b≠x:=fun b n z=>by subst z;rw[n]at mu;exact mu
 have hb:∀b,H b=none->b≠e:=fun b n z=>by
  subst z;rcases he with r|r
  ·exact hx b n r
  ·rw[n]at r;cases r
 have hm:∀b u,H b=some u->¬GD (some u)->b≠x:=fun b u q nm z=>by subst z;rw[q]at mu;exact nm mu
 refine⟨fun b u q n _ _=>k b u (hb b n) q,fun b u q n _ _=>⟨u.slots,k b u (hb b n) q⟩,fun b u q n _=>by rw[au (hx b n)];exact n,fun b u q _=>?_,
  fun b xs q=>by rw[au (hm b _ q fun z=>z)];exact q,fun b u xs q=>by rw[au (hm b _ q fun z=>z)];exact q,fun b ps q=>⟨#[],by rw[au (hm b _ q fun z=>z),q];simp⟩⟩
 by_cases Ye:b=e
 ·subst Ye;exact YR
 ·exact⟨u,k b u Ye q⟩
end
def Iw(h:Heap)(H:Hp):List Ul:=(List.range h.objs.size).filter fun a=>(H a).isSome
def om(h:Heap)(H:Hp):Heap:=PySem.W.hideAll h (Iw h H)
def wI(h:Heap)(H:Hp):(om h H).objs.size=h.objs.size:=PySem.W.hideAll_size _ _
def xO{o:Obj}(e:h.get? b=some o)(n:H b=none):(om h H).get? b=some o:=
 PySem.W.hideAll_get _ e fun hm=>by
  have q:(H b).isSome=true:=(Mi.mp hm).2;rw[n]at q;simp at q
def Bg{o:Obj}(e:(om h H).get? b=some o):h.get? b=some o/\H b=none:=by
 have e':h.get? b=some o:=PySem.W.of_hideAll (Iw h H) e;refine⟨e',?_⟩;cases q:H b with
 |none=>rfl
 |some x=>
  have hm:b∈Iw h H:=Mi.mpr ⟨LG.mpr (K1 e'),by simp[q]⟩;have z:(om h H).get? b=none:=PySem.W.hideAll_none (Iw h H) hm;rw[z]at e;cases e
structure Mod(K:ZF)(mg:Str->Option Uk)(base:Heap):Prop where
 kin:K.In base
 glob:base.Ns mainGlobals mg
 blt:∃mb,base.Ns builtinsNs mb/\∀x:Str,x≠"__name__"->mb x=bootBuiltins x
 nolimit:base.NoLimit
structure Cx where
 prog:Uo
 w:Up
 K:ZF
 mg:Str->Option Uk
 base:Heap
 A:Uq
 N:Us
 s₀:Um
 H₀:Hp
 env:Env
 outer:List Env
 stack:List Env
 ex:List Ul
 fn:Str->Bool
 calm:Bool
 pn:List (Ul×Obj)
 xe:Uk->Um->Prop
def wJ(l:List Env):List Ul:=l.filterMap (·.frame)
abbrev Cx.fs(X:Cx):List Ul:=wJ X.outer
def Ix(sc:Scope)(x:Str):Prop:=sc.names.lookup x=some .local\/sc.names.lookup x=some .cell\/sc.names.lookup x=some .free
def Ea(sc:Scope)(x:Str):Prop:=sc.names.lookup x=some .local\/sc.names.lookup x=some .cell
def IJ(env:Env)(h:Heap)(m:Str->Option Uk)(x:Str)(u:Uk):Prop:=
 (env.kindOf x=some .local/\m x=some u)\/((env.kindOf x=some .cell\/env.kindOf x=some .free)/\∃c,env.cells.lookup x=some c/\h.IsCell c (some u))
structure Cx.Ok(X:Cx):Prop where
 mod:Mod X.K X.mg X.base
 kind:X.env.scope.kind=.function
 glob:X.env.globals=mainGlobals
 blt:X.env.builtins=builtinsNs
 above:X.s₀.heap.objs.size<=X.env.locals
 inj:∀x y c,X.env.cells.lookup x=some c->X.env.cells.lookup y=some c->x=y
 has:∀x,(X.env.kindOf x=some .cell\/X.env.kindOf x=some .free)->∃c,X.env.cells.lookup x=some c
 cab:∀x c,X.fn x=true->X.env.cells.lookup x=some c->X.s₀.heap.objs.size<=c
 hd:X.calm=true->X.A.handled=none
 frames:X.A.frames=some X.stack
 stk:X.stack=X.outer\/(X.stack=X.env::X.outer/\X.env.frame=some X.env.locals)
 exf:∀b∈X.ex,b≠X.env.locals/\∀x c,X.env.cells.lookup x=some c->c≠b
 bs:∀b o,X.base.get? b=some o->X.s₀.heap.get? b=some o/\X.H₀ b=none
 bsz:X.base.objs.size<=X.s₀.heap.objs.size
 noex:∀b o,X.base.get? b=some o->b∉X.ex
 exfs:∀b∈X.ex,b∉X.fs
 funs:X.s₀.heap.FunFrames X.base X.outer
 frf:∀b∈X.fs,X.H₀ b=none
structure OR(X:Cx)(MC:List (Ul×Obj))(σ:List (Option V))(H:Hp)(s:Um):Prop where
 ok:X.Ok
 os:s.os=X.s₀.os
 bare:AllBare s.gens
 base:Un X.fs X.ex X.H₀ H X.s₀.heap s.heap
 loc:∃m,s.heap.Ns X.env.locals m/\∀(i:Nat)(x:Str)(v:V),X.N[i]?=some x->σ[i]?=some (some v)->Ix X.env.scope x->∃u,OW v u/\IJ X.env s.heap m x u
 cell:∀x c,X.env.cells.lookup x=some c->∃v,s.heap.IsCell c v
 free:H X.env.locals=none
 freeC:∀x c,X.env.cells.lookup x=some c->H c=none
 pin:∀p∈X.pn++MC,s.heap.get? p.1=some p.2/\H p.1=none/\p.1≠X.env.locals/\p.1∉X.fs/\∀v,p.2.data≠.cell v
 hok:PJ X.prog X.w H s.heap
 len:σ.length=X.N.length
section
variable{X:Cx}{MC:List (Ul×Obj)}{σ:List (Option V)}{H H':Hp}{s:Um}{h':Heap}
def Cx.Ok.nofr(ok:X.Ok){o:Obj}(e:X.base.get? b=some o):b∉X.fs:=fun hb=>by
 have:=(ok.funs.mem hb).1;rw[e]at this;cases this
def OR.bs(I:OR X MC σ H s):∀b o,X.base.get? b=some o->s.heap.get? b=some o/\H b=none:=fun b o e=>
 ⟨I.base.keep b o (I.ok.bs b o e).1 (I.ok.bs b o e).2 (I.ok.nofr e) (I.ok.noex b o e),I.base.free b o (I.ok.bs b o e).1 (I.ok.bs b o e).2 (I.ok.noex b o e)⟩
def OR.bk(I:OR X MC σ H s):∀b o,X.base.get? b=some o->s.heap.get? b=some o:=fun b o e=>(I.bs b o e).1
def OR.mod(I:OR X MC σ H s):Mod X.K X.mg X.base:=I.ok.mod
def OR.kIn(I:OR X MC σ H s):X.K.In s.heap:=I.ok.mod.kin.keeps I.bk
def OR.lt(I:OR X MC σ H s):X.env.locals<s.heap.objs.size:=let⟨_,hn,_⟩:=I.loc;hn.lt
def OR.sz(I:OR X MC σ H s):X.s₀.heap.objs.size<=s.heap.objs.size:=Ll I.ok.above (Nat.le_of_lt I.lt)
def OR.nofs(I:OR X MC σ H s)(h:s.heap.objs.size<=a):a∉X.fs:=fun hb=>by
 obtain⟨_,o,ho,_⟩:=I.ok.funs.mem hb;exact absurd (Lf (K1 ho) (Ll I.sz h)) (Mf _)
def OR.cne(I:OR X MC σ H s):∀x c,X.env.cells.lookup x=some c->c≠X.env.locals:=fun x c e z=>by
 obtain⟨v,o,ho,hd⟩:=I.cell x c e;obtain⟨m,⟨o',es,ep,Wr,ZO,_⟩,_⟩:=I.loc;rw[z,Wr]at ho;cases ho;rw[ZO]at hd;cases hd
def OR.funs(I:OR X MC σ H s):s.heap.FunFrames X.base X.outer:=by
 have all:∀(l:List Env),(∀b∈wJ l,b∈X.fs)->X.s₀.heap.FunFrames X.base l->s.heap.FunFrames X.base l:=by
  intro l;induction l with
  |nil=>intro _ _;trivial
  |cons env r ih=>
   intro hs hl;obtain⟨hk,⟨L,o,hf,hn,ho,hd⟩,hr⟩:=hl;have hL:L∈X.fs:=hs L (by unfold wJ;rw[Md,hf];exact KB);obtain⟨sl,e⟩:=I.base.slot L o ho (I.ok.frf L hL) hL fun z=>I.ok.exfs L z hL;exact⟨hk,⟨L,_,hf,hn,e,hd⟩,ih (fun b hb=>hs b (by unfold wJ;rw[Md,hf];exact KM _ hb)) hr⟩
 exact all X.outer (fun _ hb=>hb) I.ok.funs
def OR.stack(I:OR X MC σ H s):s.heap.FunFrames X.base X.stack:=by
 rcases I.ok.stk with e|⟨e,hf⟩
 ·rw[e];exact I.funs
 ·rw[e];obtain⟨m,hn,_⟩:=I.loc;refine .cons (by rw[I.ok.kind];decide) hf hn ?_ I.funs;exact Heap.get?_none_of_le (Ll I.ok.bsz I.ok.above)
def OR.stkSub(I:OR X MC σ H s):∀b∈wJ X.stack,b∈X.env.locals::X.fs:=fun b hb=>by
 rcases I.ok.stk with e|⟨e,hf⟩
 ·rw[e]at hb;exact KM _ hb
 ·rw[e]at hb;unfold wJ at hb;rw[Md,hf]at hb;exact hb
def OR.stkFree(I:OR X MC σ H s):∀b∈wJ X.stack,H b=none:=fun b hb=>by
 rcases KH.mp (I.stkSub b hb)with e|hb
 ·rw[e];exact I.free
 ·obtain⟨_,o,ho,_⟩:=I.ok.funs.mem hb;exact I.base.free b o ho (I.ok.frf b hb) fun z=>I.ok.exfs b z hb
def OR.step{g':Array GenState}{t':Nat}{d':Drawn}{ch:List Ul}(I:OR X MC σ H s)
  (WV:∀b∈ch,(b∈X.ex\/X.s₀.heap.objs.size<=b)/\b≠X.env.locals/\(∀x c,X.env.cells.lookup x=some c->c≠b)/\∀p∈X.pn++MC,p.1≠b)
  (keep:∀b o,b≠X.env.locals->b∉X.fs->b∉ch->s.heap.get? b=some o->H b=none->h'.get? b=some o)
  (slot:∀b o,b≠X.env.locals->b∈X.fs->b∉ch->s.heap.get? b=some o->H b=none->∃sl,h'.get? b=some {o with slots:=sl}) (free:∀b o,b∉ch->s.heap.get? b=some o->H b=none->H' b=none)
  (there:∀b o,b∉ch->s.heap.get? b=some o->∃o',h'.get? b=some o')
  (tups:∀b xs,H b=some (.tup xs)->H' b=some (.tup xs)) (frzs:∀b o u,H b=some (.frz o u)->H' b=some (.frz o u)) (tbls:∀b ps,H b=some (.tbl ps)->∃more,H' b=some (.tbl (ps++more)))
  (ns:∀m,s.heap.Ns X.env.locals m->h'.Ns X.env.locals m) (hok:PJ X.prog X.w H' h') (hg:AllBare g') :
  OR X MC σ H' {s with heap:=h',gens:=g',drawn:=d',toks:=t'}:=by
 have neL:∀b o,X.s₀.heap.get? b=some o->b≠X.env.locals:=fun b o e=>Lk (Lf (K1 e) I.ok.above);have neC:∀b o,X.s₀.heap.get? b=some o->b∉X.ex->b∉ch:=fun b o e hx hb=>by
  rcases(WV b hb).1 with z|z
  ·exact hx z
  ·exact absurd (Lf (K1 e) z) (Mf _)
 have XX:∀x c,X.env.cells.lookup x=some c->∀v,s.heap.IsCell c v->h'.IsCell c v:=fun x c e v⟨o,ho,hd⟩=>by
  have Zk:c∉ch:=fun z=>(WV c z).2.2.1 x c e rfl;by_cases hc:c∈X.fs
  ·obtain⟨sl,q⟩:=slot c o (I.cne x c e) hc Zk ho (I.freeC x c e);exact⟨_,q,hd⟩
  ·exact⟨o,keep c o (I.cne x c e) hc Zk ho (I.freeC x c e),hd⟩
 refine⟨I.ok,I.os,hg,⟨fun b o e n hb hx=>?_,fun b o e n hb hx=>?_,fun b o e n hx=>?_,fun b o e hx=>?_,fun b xs e=>tups b xs (I.base.tups b xs e),fun b o xs e=>frzs b o xs (I.base.frzs b o xs e),fun b ps e=>?_⟩,?_,fun x c e=>?_,?_,fun x c e=>?_,fun p hp=>?_,hok,I.len⟩
 ·exact keep b o (neL b o e) hb (neC b o e hx) (I.base.keep b o e n hb hx) (I.base.free b o e n hx)
 ·obtain⟨sl,e1⟩:=I.base.slot b o e n hb hx;obtain⟨sl',e2⟩:=slot b _ (neL b o e) hb (neC b o e hx) e1 (I.base.free b o e n hx);exact⟨sl',e2⟩
 ·obtain⟨o',e1⟩:=I.base.there b o e hx;exact free b o' (neC b o e hx) e1 (I.base.free b o e n hx)
 ·obtain⟨o',e1⟩:=I.base.there b o e hx;exact there b o' (neC b o e hx) e1
 ·obtain⟨m1,e1⟩:=I.base.tbls b ps e;obtain⟨m2,e2⟩:=tbls b _ e1;exact⟨m1++m2,by rw[e2,Array.append_assoc]⟩
 ·obtain⟨m,hn,hl⟩:=I.loc;refine⟨m,ns m hn,fun i x v e1 e2 e3=>?_⟩;obtain⟨u,r,l⟩:=hl i x v e1 e2 e3;refine⟨u,r,?_⟩;rcases l with l|⟨k,c,e,z⟩
  ·exact .inl l
  ·exact .inr ⟨k,c,e,XX x c e _ z⟩
 ·obtain⟨v,z⟩:=I.cell x c e;exact⟨v,XX x c e v z⟩
 ·obtain⟨m,⟨o,_,_,ho,_⟩,_⟩:=I.loc;exact free _ o (fun z=>(WV _ z).2.1 rfl) ho I.free
 ·obtain⟨v,o,ho,hd⟩:=I.cell x c e;exact free c o (fun z=>(WV c z).2.2.1 x c e rfl) ho (I.freeC x c e)
 ·obtain⟨e,n,ne,nf,d⟩:=I.pin p hp;have Zk:p.1∉ch:=fun z=>(WV p.1 z).2.2.2 p hp rfl;exact⟨keep p.1 p.2 ne nf Zk e n,free p.1 p.2 Zk e n,ne,nf,d⟩
def OR.un{t':Nat}(I:OR X MC σ H s)(u:Un X.fs [] H H' s.heap h')(hok:PJ X.prog X.w H' h'):OR X MC σ H' {s with heap:=h',toks:=t'}:=by
 obtain⟨m,⟨o,es,ep,ho,r⟩,_⟩:=id I.loc;obtain⟨sl,hL⟩:=u.any ho I.free (by simp);exact I.step (g':=s.gens) (d':=s.drawn) (ch:=[]) (fun _ z=>nomatch z) (fun b o _ hb _ e n=>u.keep b o e n hb (by simp)) (fun b o _ hb _ e n=>u.slot b o e n hb (by simp)) (fun b o _ e n=>u.free b o e n (by simp)) (fun b o _ e=>u.there b o e (by simp)) u.tups u.frzs u.tbls (fun m' hm=>by
  obtain⟨o',es',ep',Wr,r'⟩:=hm;rw[ho]at Wr;cases Wr;exact⟨_,es',ep',hL,r'⟩) hok I.bare
variable{ch:List Ul}
def OR.call{g':Array GenState}{t':Nat}{d':Drawn}(I:OR X MC σ H s)(u:Un (wJ X.stack) ch H H' s.heap h')(hok:PJ X.prog X.w H' h')(hg:AllBare g')
  (WV:∀b∈ch,(b∈X.ex\/X.s₀.heap.objs.size<=b)/\b≠X.env.locals/\(∀x c,X.env.cells.lookup x=some c->c≠b)/\∀p∈X.pn++MC,p.1≠b) :
  OR X MC σ H' {s with heap:=h',gens:=g',drawn:=d',toks:=t'}:=by
 obtain⟨m,⟨o,es,ep,ho,r⟩,_⟩:=id I.loc;obtain⟨sl,hL⟩:=u.any ho I.free fun z=>(WV _ z).2.1 rfl;exact I.step (ch:=ch) WV (fun b o hL hb hc e n=>u.keep b o e n (fun z=>(KH.mp (I.stkSub b z)).elim hL hb) hc) (fun b o _ _ hc e n=>u.any e n hc) (fun b o hc e n=>u.free b o e n hc) (fun b o hc e=>u.there b o e hc) u.tups u.frzs u.tbls (fun m' hm=>by
  obtain⟨o',es',ep',Wr,r'⟩:=hm;rw[ho]at Wr;cases Wr;exact⟨_,es',ep',hL,r'⟩) hok hg
def OR.turned{t':Nat}{it:Ul}(I:OR X MC σ H s)(k:∀b o,b≠it->s.heap.get? b=some o->h'.get? b=some o)(hn:H it=none)(hL:it≠X.env.locals)
  (h1:it∈X.ex\/X.s₀.heap.objs.size<=it) (h2:∀x c,X.env.cells.lookup x=some c->c≠it) (h3:∀p∈X.pn++MC,p.1≠it):OR X MC σ H {s with heap:=h',toks:=t'}:=by
 have nit:∀b u,H b=some u->b≠it:=fun b u e z=>by rw[z,hn]at e;cases e
 refine I.step (g':=s.gens) (d':=s.drawn) (ch:=[it]) (fun b hb=>?_) (fun b o _ _ hc e _=>k b o (fun z=>hc (by simp[z])) e) (fun b o _ _ hc e _=>⟨o.slots,k b o (fun z=>hc (by simp[z])) e⟩) (fun _ _ _ _ n=>n)
  (fun b o hc e=>⟨o,k b o (fun z=>hc (by simp[z])) e⟩) (fun _ _ e=>e) (fun _ _ _ e=>e) (fun b ps e=>⟨#[],by rw[e];simp⟩) (fun m hm=>?_) (fun b u e=>?_) I.bare
 ·have e:b=it:=by simpa using hb
  subst e;exact⟨h1,hL,h2,h3⟩
 ·obtain⟨o,es,ep,ho,r⟩:=hm;exact⟨o,es,ep,k _ o (Pi hL) ho,r⟩
 ·refine(I.hok b u e).stay (fun c v hc q=>k c v ?_ q) (fun _ q=>q) fun _ _ q=>q;rcases hc with z|z
  ·rw[z];exact nit b u e
  ·exact nit c _ z
def OR.tok(I:OR X MC σ H s)(t:Nat):OR X MC σ H {s with toks:=t}:=I.un (h':=s.heap) (t':=t) Un.refl I.hok
def OR.kept{t':Nat}(I:OR X MC σ H s)(k:∀b u,s.heap.get? b=some u->h'.get? b=some u):OR X MC σ H {s with heap:=h',toks:=t'}:=I.un (Un.kept k) (I.hok.kept k)
def OR.laid{t':Nat}(I:OR X MC σ H s)(k:∀b u,s.heap.get? b=some u->h'.get? b=some u)(hp:s.heap.objs.size<=a)(new:O2 X.prog X.w (aM H a o) h' a o):
  OR X MC σ (aM H a o) {s with heap:=h',toks:=t'}:=I.un (Un.laid k hp (I.hok.fresh hp)) (I.hok.laid k hp new)
def OR.write{x e:Ul}{o:HO}{t':Nat}(I:OR X MC σ H s)(mu:GD (H x))(he:e=x\/H e=some (.own x))(k:∀b u,b≠e->s.heap.get? b=some u->h'.get? b=some u)(YR:∃u,h'.get? e=some u)
  (new:O2 X.prog X.w (aM H x o) h' x o):OR X MC σ (aM H x o) {s with heap:=h',toks:=t'}:=I.un (Un.write mu he k YR) (I.hok.write mu he k YR new)
def OR.weak{σ':List (Option V)}(I:OR X MC σ H s)(hl:σ'.length=σ.length)(w:∀(i:Nat)v,σ'[i]?=some (some v)->σ[i]?=some (some v)):OR X MC σ' H s:=
 ⟨I.ok,I.os,I.bare,I.base,let⟨m,hn,YQ⟩:=I.loc;⟨m,hn,fun i x v e1 e2 e3=>YQ i x v e1 (w i v e2) e3⟩,I.cell,I.free,I.freeC,I.pin,I.hok,hl.trans I.len⟩
def OR.pins_of{pins':List (Ul×Obj)}(I:OR X MC σ H s)(h:∀p∈pins',s.heap.get? p.1=some p.2/\H p.1=none/\p.1≠X.env.locals/\p.1∉X.fs/\∀v,p.2.data≠.cell v):OR X pins' σ H s:=
 ⟨I.ok,I.os,I.bare,I.base,I.loc,I.cell,I.free,I.freeC,fun p hp=>(La.mp hp).elim (fun z=>I.pin p (LI _ z)) (h p),I.hok,I.len⟩
variable{i j:Nat}
def qL{N:Us}(hN:N.Nodup){x:Str}(a:N[i]?=some x)(b:N[j]?=some x):i=j:=by
 obtain⟨h1,e1⟩:=Kx.mp a;obtain⟨h2,e2⟩:=Kx.mp b;exact(List.getElem_inj hN).mp (e1.trans e2.symm)
variable{v:V}
def m8{M:Model}{A:Uq}{E:Uk->Um->Prop}{x:Str}{Q:Unit->Um->Prop}(I:OR X MC σ H s)(hN:X.N.Nodup)(hi:X.N[i]?=some x)(hx:Ea X.env.scope x)(r:OW v u)
  (h:∀s',OR X MC (σ.set i (some v)) H s'->(∃a,Heap.SameBut a s.heap s'.heap/\(a=X.env.locals\/X.env.cells.lookup x=some a))->Q () s') (hf:X.fn x=true\/X.env.scope.names.lookup x=some .local:=by first|exact .inl rfl|exact .inr rfl|assumption):wpAny M A (storeName X.env x u) Q E s:=by
 obtain⟨m,hn,hl⟩:=id I.loc;have hcls:(X.env.scope.kind==.class||(X.env.scope.kind==.module&&X.env.locals != X.env.globals))=false:=by rw[I.ok.kind];rfl
 have hiσ:i<σ.length:=by rw[I.len];exact(Kx.mp hi).1
 have cne:=I.cne;have V0:∀{a:Ul}{h':Heap},(∃o,s.heap.get? a=some o/\H a=none)->Heap.SameBut a s.heap h'->PJ X.prog X.w H h':=fun{a h'}ha hs b ob e=>by
  obtain⟨_,_,XV⟩:=ha;refine(I.hok b ob e).stay (fun c w' hc q=>(hs.2 c ?_).trans q) (fun _ q=>q) fun _ _ q=>q;rintro rfl;rcases hc with rfl|hc
  ·rw[XV]at e;cases e
  ·rw[XV]at hc;cases hc
 rcases hx with hk|hk
 ·refine wpAny_storeName_local hk hn (fun h' Zw hs=>?_) hcls;obtain⟨oL,_,_,hoL,_⟩:=id hn;refine h _ ⟨I.ok,I.os,I.bare,⟨fun b o e n hb hx=>?_,fun b o e n hb hx=>?_,I.base.free,fun b o e hx=>?_,I.base.tups,I.base.frzs,I.base.tbls⟩,⟨_,Zw,fun j y v' e1 e2 e3=>?_⟩,fun y c e=>?_,I.free,I.freeC,fun p hp=>?_,V0 ⟨oL,hoL,I.free⟩ hs,by simpa using I.len⟩ ⟨_,hs,.inl rfl⟩
  ·exact(hs.2 b (Lk (Lf (K1 e) I.ok.above))).trans (I.base.keep b o e n hb hx)
  ·obtain⟨sl,e1⟩:=I.base.slot b o e n hb hx;exact⟨sl,(hs.2 b (Lk (Lf (K1 e) I.ok.above))).trans e1⟩
  ·obtain⟨o',e1⟩:=I.base.there b o e hx;exact⟨o',(hs.2 b (Lk (Lf (K1 e) I.ok.above))).trans e1⟩
  ·by_cases hj:j=i
   ·subst hj;rw[hi]at e1;cases e1;rw[List.getElem?_set_self hiσ]at e2;cases e2;exact⟨u,r,.inl ⟨hk,by simp⟩⟩
   ·rw[List.getElem?_set_ne (Pi hj)]at e2;obtain⟨u',r',q⟩:=hl j y v' e1 e2 e3;refine⟨u',r',?_⟩;rcases q with⟨k,e⟩|⟨k,c,e,z⟩
    ·refine .inl ⟨k,?_⟩;have:y≠x:=fun e=>hj (qL hN e1 (e▸hi));simp[this,e]
    ·exact .inr ⟨k,c,e,z.sameBut hs (cne y c e)⟩
  ·obtain⟨w',z⟩:=I.cell y c e;exact⟨w',z.sameBut hs (cne y c e)⟩
  ·obtain⟨e,n,ne,nf,d⟩:=I.pin p hp;exact⟨(hs.2 p.1 ne).trans e,n,ne,nf,d⟩
 ·have hfn:X.fn x=true:=by
   rcases hf with z|z
   ·exact z
   ·rw[z]at hk;cases hk
  obtain⟨c,hc⟩:=I.ok.has x (.inl hk);obtain⟨w',z⟩:=I.cell x c hc;refine wpAny_storeName_cell I.ok.kind hk hc z (fun h' hc' hs=>?_);obtain⟨oc,hoc,hocd⟩:=id z;refine h {s with heap:=h'} ⟨I.ok,I.os,I.bare,⟨fun b o e n hb hx=>?_,fun b o e n hb hx=>?_,I.base.free,fun b o e hx=>?_,I.base.tups,I.base.frzs,I.base.tbls⟩,⟨m,hn.sameBut hs (Pi (cne x c hc)),fun j y v' e1 e2 e3=>?_⟩,fun y c' e=>?_,I.free,I.freeC,fun p hp=>?_,V0 ⟨oc,hoc,I.freeC x c hc⟩ hs,by simpa using I.len⟩ ⟨c,hs,.inr hc⟩
  ·exact(hs.2 b (Lk (Lf (K1 e) (I.ok.cab x c hfn hc)))).trans (I.base.keep b o e n hb hx)
  ·obtain⟨sl,e1⟩:=I.base.slot b o e n hb hx;exact⟨sl,(hs.2 b (Lk (Lf (K1 e) (I.ok.cab x c hfn hc)))).trans e1⟩
  ·obtain⟨o',e1⟩:=I.base.there b o e hx;exact⟨o',(hs.2 b (Lk (Lf (K1 e) (I.ok.cab x c hfn hc)))).trans e1⟩
  ·by_cases hj:j=i
   ·subst hj;rw[hi]at e1;cases e1;rw[List.getElem?_set_self hiσ]at e2;cases e2;exact⟨u,r,.inr ⟨.inl hk,c,hc,hc'⟩⟩
   ·rw[List.getElem?_set_ne (Pi hj)]at e2;obtain⟨u',r',q⟩:=hl j y v' e1 e2 e3;refine⟨u',r',?_⟩;rcases q with q|⟨k,c',e,z'⟩
    ·exact .inl q
    ·refine .inr ⟨k,c',e,z'.sameBut hs ?_⟩;rintro rfl;exact hj (qL hN e1 (I.ok.inj _ _ _ e hc▸hi))
  ·by_cases XG:c'=c
   ·subst XG;exact⟨_,hc'⟩
   ·obtain⟨w2,z2⟩:=I.cell y c' e;exact⟨w2,z2.sameBut hs XG⟩
  ·obtain⟨e,n,ne,nf,d⟩:=I.pin p hp;refine⟨(hs.2 p.1 ?_).trans e,n,ne,nf,d⟩;intro q;rw[q,hoc]at e;have q':oc=p.2:=Lc e;exact d w' (by rw[<-q'];exact hocd)
def kM{M:Model}{A:Uq}{E:Uk->Um->Prop}{x:Str}{Q:Unit->Um->Prop}(I:OR X MC σ H s)(hN:X.N.Nodup)(hi:X.N[i]?=some x)(hx:Ea X.env.scope x)(r:OW v u)
  (h:∀s',OR X MC (σ.set i (some v)) H s'->Q () s') (hf:X.fn x=true\/X.env.scope.names.lookup x=some .local:=by first|exact .inl rfl|exact .inr rfl|assumption):wpAny M A (storeName X.env x u) Q E s:=
 m8 I hN hi hx r (fun s' I' _=>h s' I') hf
def OR.call'{s':Um}(I:OR X MC σ H s)(ho:s'.os=s.os)(u:Un (wJ X.stack) ch H H' s.heap s'.heap)(hok:PJ X.prog X.w H' s'.heap)(hg:AllBare s'.gens)
  (WV:∀b∈ch,(b∈X.ex\/X.s₀.heap.objs.size<=b)/\b≠X.env.locals/\(∀x c,X.env.cells.lookup x=some c->c≠b)/\∀p∈X.pn++MC,p.1≠b):OR X MC σ H' s':=by
 obtain⟨h',g',d',t',o'⟩:=s';have e:o'=s.os:=ho;subst e;exact I.call (g':=g') (t':=t') (d':=d') u hok hg WV
end
abbrev XK:=Uk->Option Ul->Hp->Prop
abbrev St:=List (Option V)
abbrev VK:=V->Hp->Prop
abbrev TE:=St->Hp->VK->Prop
abbrev TT:=St->Hp->(Bool->Hp->Prop)->Prop
abbrev TA:=St->Hp->(Uv->Hp->Prop)->Prop
structure gD where
 nx:St->Hp->Prop
 rt:VK
 bk:St->Hp->Prop:=fun _ _=>False
 ct:St->Hp->Prop:=fun _ _=>False
abbrev TS:=gD->St->Hp->Prop
inductive EP(X:Cx)(MC:List (Ul×Obj))(σ:St)(Q:VK)(u:Uk)(s':Um):Prop
 |mk(v H':_):OR X MC σ H' s'->OW v u->Q v H'->EP X MC σ Q u s'
def TP(X:Cx)(MC:List (Ul×Obj))(σ:St)(Q:Bool->Hp->Prop)(b:Bool)(s':Um):Prop:=∃H',OR X MC σ H' s'/\Q b H'
inductive AP(X:Cx)(MC:List (Ul×Obj))(σ:St)(Q:Uv->Hp->Prop)(us:List Uk)(s':Um):Prop
 |mk(vs H':_):OR X MC σ H' s'->OV vs us->Q vs H'->AP X MC σ Q us s'
def SP(X:Cx)(MC:List (Ul×Obj))(D:gD)(f:Flow)(s':Um):Prop:=
 match f with
 |.next=>∃σ' H',OR X MC σ' H' s'/\D.nx σ' H'
 |.brk=>∃σ' H',OR X MC σ' H' s'/\D.bk σ' H'
 |.cont=>∃σ' H',OR X MC σ' H' s'/\D.ct σ' H'
 |.ret u=>∃v σ' H',OR X MC σ' H' s'/\OW v u/\D.rt v H'
structure PE(X:Cx)(e:Expr)(t:TE):Prop where
 run:∀(MC:List (Ul×Obj))(s:Um)(σ:St)(H:Hp)(Q:VK),OR X MC σ H s->t σ H Q->wpAny (model X.prog X.w) X.A (eval e X.env) (EP X MC σ Q) X.xe s
instance {X:Cx}{e:Expr}{t:TE}:CoeFun (PE X e t) fun _=>∀(MC:List (Ul×Obj))(s:Um)(σ:St)(H:Hp)(Q:VK),OR X MC σ H s->t σ H Q->wpAny (model X.prog X.w) X.A (eval e X.env) (EP X MC σ Q) X.xe s:=⟨PE.run⟩
structure PT(X:Cx)(e:Expr)(t:TT):Prop where
 run:∀(MC:List (Ul×Obj))(s:Um)(σ:St)(H:Hp)(Q:Bool->Hp->Prop),OR X MC σ H s->t σ H Q->wpAny (model X.prog X.w) X.A (isTrue e X.env (eval e X.env)) (TP X MC σ Q) X.xe s
instance {X:Cx}{e:Expr}{t:TT}:CoeFun (PT X e t) fun _=>∀(MC:List (Ul×Obj))(s:Um)(σ:St)(H:Hp)(Q:Bool->Hp->Prop),OR X MC σ H s->t σ H Q->wpAny (model X.prog X.w) X.A (isTrue e X.env (eval e X.env)) (TP X MC σ Q) X.xe s:=⟨PT.run⟩
structure PW(X:Cx)(e:Expr)(t:TT):Prop where
 run:∀(UW:Sem Uk)(MC:List (Ul×Obj))(s:Um)(σ:St)(H:Hp)(Q:Bool->Hp->Prop),OR X MC σ H s->t σ H Q->wpAny (model X.prog X.w) X.A (isTrue e X.env UW) (TP X MC σ Q) X.xe s
instance {X:Cx}{e:Expr}{t:TT}:CoeFun (PW X e t) fun _=>∀(UW:Sem Uk)(MC:List (Ul×Obj))(s:Um)(σ:St)(H:Hp)(Q:Bool->Hp->Prop),OR X MC σ H s->t σ H Q->wpAny (model X.prog X.w) X.A (isTrue e X.env UW) (TP X MC σ Q) X.xe s:=⟨PW.run⟩
variable{e:Expr}{X:Cx}
def PW.pt{t:TT}(h:PW X e t):PT X e t:=⟨fun MC s σ H Q I q=>h _ MC s σ H Q I q⟩
structure PA(X:Cx)(es:List Expr)(t:TA):Prop where
 run:∀(pos:Pos)(MC:List (Ul×Obj))(s:Um)(σ:St)(H:Hp)(Q:Uv->Hp->Prop),OR X MC σ H s->t σ H Q->wpAny (model X.prog X.w) X.A (spliced (backTo pos (starEach es X.env))) (AP X MC σ Q) X.xe s
instance {X:Cx}{es:List Expr}{t:TA}:CoeFun (PA X es t) fun _=>∀(pos:Pos)(MC:List (Ul×Obj))(s:Um)(σ:St)(H:Hp)(Q:Uv->Hp->Prop),OR X MC σ H s->t σ H Q->wpAny (model X.prog X.w) X.A (spliced (backTo pos (starEach es X.env))) (AP X MC σ Q) X.xe s:=⟨PA.run⟩
structure PS(X:Cx)(st:Stmt)(t:TS):Prop where
 run:∀(MC:List (Ul×Obj))(s:Um)(σ:St)(H:Hp)(D:gD),OR X MC σ H s->t D σ H->wpAny (model X.prog X.w) X.A (exec st X.env) (SP X MC D) X.xe s
instance {X:Cx}{st:Stmt}{t:TS}:CoeFun (PS X st t) fun _=>∀(MC:List (Ul×Obj))(s:Um)(σ:St)(H:Hp)(D:gD),OR X MC σ H s->t D σ H->wpAny (model X.prog X.w) X.A (exec st X.env) (SP X MC D) X.xe s:=⟨PS.run⟩
structure Qx(X:Cx)(st:List Stmt)(t:TS):Prop where
 run:∀(MC:List (Ul×Obj))(s:Um)(σ:St)(H:Hp)(D:gD),OR X MC σ H s->t D σ H->wpAny (model X.prog X.w) X.A (execs st X.env) (SP X MC D) X.xe s
instance {X:Cx}{st:List Stmt}{t:TS}:CoeFun (Qx X st t) fun _=>∀(MC:List (Ul×Obj))(s:Um)(σ:St)(H:Hp)(D:gD),OR X MC σ H s->t D σ H->wpAny (model X.prog X.w) X.A (execs st X.env) (SP X MC D) X.xe s:=⟨Qx.run⟩
variable{s:Um}{E:Uk->Um->Prop}{A:Uq}{M:Model}
def cg{α:Type}{t:Sem α}{Q Q':α->Um->Prop}(h:wpAny M A t Q E s)(hQ:∀a s,Q a s->Q' a s):wpAny M A t Q' E s:=q_ h hQ fun _ _ x=>x
section
variable{X:Cx}
inductive wK(i:Nat)(σ:St)(H:Hp)(Q:VK):Prop
 |mk(v:_):σ[i]?=some (some v)->Q v H->wK i σ H Q
def tC(v:V):TE:=fun _ H Q=>Q v H
def Eb{i:Nat}{x:Str}{pos:Pos}(hN:X.N[i]?=some x)(hv:Ix X.env.scope x)(hd:(x==("__debug__":Str))=false:=by decide)(VH:(x==("__classdict__":Str))=false:=by decide):PE X (.Name x pos) (wK i):=by
 refine⟨?_⟩;intro MC s σ H Q I h;obtain⟨v,e,h⟩:=h;obtain⟨m,hn,hl⟩:=I.loc;obtain⟨u,r,l⟩:=hl i x v hN e hv;have F':EP X MC σ Q u s:=⟨v,H,I,r,h⟩;rcases l with⟨hk,hm⟩|⟨hk,c,hc,UY⟩
 ·exact wpAny_Name (wpAny_loadName_local I.ok.kind hk hn hm F') hd
 ·rcases hk with hk|hk
  ·exact wpAny_Name (wpAny_loadName_cell I.ok.kind hk hc UY F') hd
  ·exact wpAny_Name (wpAny_loadName_free I.ok.kind hk hc UY F' VH) hd
def af{i j pos}:PE X (.Constant (.int i) j pos) (tC (.int i)):=⟨fun _ _ _ H _ I h=>wpAny_Constant_int ⟨.int i,H,I.tok _,⟨_,rfl⟩,h⟩⟩
def fH{b j pos}:PE X (.Constant (.bool b) j pos) (tC (.bl b)):=⟨fun _ _ _ H _ I h=>Constant_bool ⟨.bl b,H,I,rfl,h⟩⟩
def gm{j pos}:PE X (.Constant .none j pos) (tC .non):=⟨fun _ _ _ H _ I h=>Constant_none ⟨.non,H,I,rfl,h⟩⟩
def ai{x j pos}:PE X (.Constant (.str x) j pos) (tC (.str x)):=⟨fun _ _ _ H _ I h=>Calls.Constant_str ⟨.str x,H,I.tok _,⟨_,rfl⟩,h⟩⟩
def Gl(X:Cx)(x:Str):Prop:=X.env.kindOf x=some .globalImplicit
variable{Q:Uk->Um->Prop}{σ:St}{MC:List (Ul×Obj)}
def kc{E:Uk->Um->Prop}{x:Str}{pos:Pos}(I:OR X MC σ H s)(hg:Gl X x)(hm:X.mg x=some u)(h:Q u s)
  (hd:(x==("__debug__":Str))=false:=by decide):wpAny (model X.prog X.w) X.A (eval (.Name x pos) X.env) Q E s:=
 Calls.Name_function_global I.ok.kind hg (Calls.loadGlobal_global (by rw[I.ok.glob];exact I.mod.glob.keeps I.bk) hm h) hd
def io{E:Uk->Um->Prop}{x:Str}{pos:Pos}(I:OR X MC σ H s)(hg:Gl X x)(hm:X.mg x=none)(hv:bootBuiltins x=some u)(h:Q u s)
  (hn:x≠"__name__":=by decide) (hd:(x==("__debug__":Str))=false:=by decide):wpAny (model X.prog X.w) X.A (eval (.Name x pos) X.env) Q E s:=by
 obtain⟨mb,h1,h2⟩:=I.mod.blt;exact Calls.Name_function_global I.ok.kind hg (Calls.loadGlobal_builtin (by rw[I.ok.glob];exact I.mod.glob.keeps I.bk) hm (by rw[I.ok.blt];exact h1.keeps I.bk) ((h2 x hn).trans hv) h) hd
variable{v:V}
def bE{x:Str}{pos:Pos}(hg:Gl X x)(hm:X.mg x=some u)(r:OW v u)(hd:(x==("__debug__":Str))=false:=by decide):PE X (.Name x pos) (tC v):=
 ⟨fun _ _ _ H _ I h=>kc I hg hm ⟨v,H,I,r,h⟩ hd⟩
def Bh{x:Str}{pos:Pos}(hg:Gl X x)(hm:X.mg x=none)(hv:bootBuiltins x=some u)(r:OW v u)(hn:x≠"__name__":=by decide)(hd:(x==("__debug__":Str))=false:=by decide):PE X (.Name x pos) (tC v):=
 ⟨fun _ _ _ H _ I h=>io I hg hm hv ⟨v,H,I,r,h⟩ hn hd⟩
variable{a b:Expr}{ta tb:TE}{pos:Pos}
def PC(X:Cx)(op:CmpOp)(a b:Expr)(t:TE):Prop:=
 ∀(MC:List (Ul×Obj))(s:Um)(σ:St)(H:Hp)(Q:VK),OR X MC σ H s->t σ H Q->
  wpAny (model X.prog X.w) X.A (eval a X.env) (fun v s₁=>wpAny (model X.prog X.w) X.A (eval b X.env) (fun u s₂=>wpAny (model X.prog X.w) X.A (compareOp op v u) (EP X MC σ Q) X.xe s₂) X.xe s₁) X.xe s
inductive J6(Q:Bool->Hp->Prop)(x:V)(H1:Hp):Prop
 |mk(c:_):x=.bl c->Q c H1->J6 Q x H1
def tB(t:TE):TT:=fun σ H Q=>t σ H fun x H1=>J6 Q x H1
def sL{op:CmpOp}{t:TE}(h:PC X op a b t)(h1:behindInMarks op b=false:=by first|exact nobehind _ zd zd|rfl):PT X (.Compare a [op] [b] pos) (tB t):=by
 refine⟨?_⟩;intro MC s σ H Q I hw;refine wpAny_isTrue_Compare1 (cg (h MC s σ H _ I hw) fun v s1 h1=>cg h1 fun u s2 h2=>cg h2 fun c s3 hZZ=>?_) h1;obtain⟨x,H1,I1,r1,q1⟩:=hZZ;obtain⟨d,rfl,q⟩:=q1;cases r1;exact n_ ⟨H1,I1,q⟩
def bT{t:TE}(h:PE X e t)(he:∀UW,isTrue e X.env UW=(do let v <-UW;standAt e.pos;holding [v] (truthy v)):=by intro _;rfl):PT X e (tB t):=by
 refine⟨?_⟩;intro MC s σ H Q I hw;refine isTrue_plain (cg (h MC s σ H _ I hw) fun v s1 hZZ=>?_) (he _);obtain⟨x,H1,I1,r1,q1⟩:=hZZ;obtain⟨d,rfl,q⟩:=q1;cases r1;exact n_ ⟨H1,I1,q⟩
variable{tA tB':TT}{j':List Expr}
def IK(t u:TT):TT:=fun σ H Q=>t σ H fun c H1=>if c=true then u σ H1 Q else Q false H1
def Ki(t u:TT):TT:=fun σ H Q=>t σ H fun c H1=>if c=true then Q true H1 else u σ H1 Q
def IM(t:TT):TT:=fun σ H Q=>t σ H fun c H1=>Q (!c) H1
def bM(ha:PT X a tA):PW X (.BoolOp .And [a] pos) tA:=by
 refine⟨?_⟩;intro wh MC s σ H Q I h;refine isTrue_and (cg (ha MC s σ H Q I h) fun c s1 e=>?_);cases c with
 |true=>exact isTrue_and_nil e
 |false=>exact e
def dM(ha:PT X a tA):PW X (.BoolOp .Or [a] pos) tA:=by
 refine⟨?_⟩;intro wh MC s σ H Q I h;refine isTrue_or (cg (ha MC s σ H Q I h) fun c s1 e=>?_);cases c with
 |false=>exact isTrue_or_nil e
 |true=>exact e
def ck(ha:PT X a tA)(hb:PW X (.BoolOp .And (b::j') pos) tB'):PW X (.BoolOp .And (a::b::j') pos) (IK tA tB'):=by
 refine⟨?_⟩;intro wh MC s σ H Q I h;refine isTrue_and (cg (ha MC s σ H _ I h) fun c s1⟨H1,I1,q1⟩=>?_);cases c with
 |true=>exact hb wh MC s1 σ H1 Q I1 q1
 |false=>exact⟨H1,I1,q1⟩
def fe(ha:PT X a tA)(hb:PW X (.BoolOp .Or (b::j') pos) tB'):PW X (.BoolOp .Or (a::b::j') pos) (Ki tA tB'):=by
 refine⟨?_⟩;intro wh MC s σ H Q I h;refine isTrue_or (cg (ha MC s σ H _ I h) fun c s1⟨H1,I1,q1⟩=>?_);cases c with
 |true=>exact⟨H1,I1,q1⟩
 |false=>exact hb wh MC s1 σ H1 Q I1 q1
def cE(ha:PT X a tA):PT X (.UnaryOp .Not a pos) (IM tA):=by
 refine⟨?_⟩;intro MC s σ H Q I h;exact isTrue_not (ha MC s σ H (fun c H1=>Q (!c) H1) I h)
inductive xP(tb:TE)(σ:St)(Q:VK)(x:V)(H1:Hp):Prop
 |mk(c:_):x=.bl c->(if c=true then tb σ H1 Q else Q (.bl false) H1)->xP tb σ Q x H1
def GE(ta tb:TE):TE:=fun σ H Q=>ta σ H fun x H1=>xP tb σ Q x H1
inductive xQ(Q:VK)(x:V)(H1:Hp):Prop
 |mk(c:_):x=.bl c->Q (.bl (!c)) H1->xQ Q x H1
def GF(ta:TE):TE:=fun σ H Q=>ta σ H fun x H1=>xQ Q x H1
def ip{op}{t:TE}(h:PE X a t):PE X (.BoolOp op [a] pos) t:=⟨fun MC s σ H Q I hw=>BoolOp_one (h MC s σ H Q I hw)⟩
def jr(ha:PE X a ta)(hb:PE X (.BoolOp .And (b::j') pos) tb):PE X (.BoolOp .And (a::b::j') pos) (GE ta tb):=by
 refine⟨?_⟩;intro MC s σ H Q I h;refine BoolOp_and (cg (ha MC s σ H _ I h) fun v s1 hZZ=>?_);obtain⟨x,H1,I1,r1,q1⟩:=hZZ;obtain⟨c,rfl,q1⟩:=q1;cases r1;refine n_ ?_;cases c with
 |true=>exact hb MC s1 σ H1 Q I1 q1
 |false=>exact⟨.bl false,H1,I1,rfl,q1⟩
def Ec(ha:PE X a ta):PE X (.UnaryOp .Not a pos) (GF ta):=by
 refine⟨?_⟩;intro MC s σ H Q I h;refine UnaryOp_ (cg (ha MC s σ H _ I h) fun v s1 hZZ=>?_);obtain⟨x,H1,I1,r1,q1⟩:=hZZ;obtain⟨c,rfl,q1⟩:=q1;cases r1;exact not_of (n_ ⟨.bl (!c),H1,I1,rfl,q1⟩)
def Kj(t:TT)(ta tb:TE):TE:=fun σ H Q=>t σ H fun c H1=>if c=true then ta σ H1 Q else tb σ H1 Q
def di{c:Expr}(hc:PT X c tA)(ha:PE X a ta)(hb:PE X b tb):PE X (.IfExp c a b pos) (Kj tA ta tb):=by
 refine⟨?_⟩;intro MC s σ H Q I h;refine wpAny_IfExp (cg (hc MC s σ H _ I h) fun d s1⟨H1,I1,q1⟩=>?_);cases d with
 |true=>exact ha MC s1 σ H1 Q I1 q1
 |false=>exact hb MC s1 σ H1 Q I1 q1
end
def OO(K:ZF)(H:Hp)(a:Ul)(xs:Uv):Prop:=
 Rd H a (.lst xs) ∨
  ∃(o:Obj)(f':Array Uk)(n:Nat),K.lookup a=some o/\o.cls=.type "list"/\o.dict=none/\o.data=.seq f' n/\f'.size<=sizeLine/\OV xs f'.toList
def ON(K:ZF)(H:Hp)(a:Ul)(xs:Uv):Prop:=
 Rd H a (.tup xs) ∨
  ∃(o:Obj)(f':Array Uk)(n:Nat),K.lookup a=some o/\o.cls=.type "tuple"/\o.data=.seq f' n/\f'.size<=sizeLine/\OV xs f'.toList
def IP:Uk->Option V
 |.none=>some .non
 |.bool b=>some (.bl b)
 |.int i _=>some (.int i)
 |.str x _=>some (.str x)
 |.bytes b _=>some (.byt b)
 |.float b _=>some (.flt b)
 |.ref a=>some (.ref a)
 |.type n=>some (.ty n)
 |_=>none
def OW.abs(r:OW x u):IP u=some x:=by
 cases x with
 |non=>cases r;rfl
 |bl _=>cases r;rfl
 |int _=>obtain⟨t,rfl⟩:=r;rfl
 |str _=>obtain⟨t,rfl⟩:=r;rfl
 |byt _=>obtain⟨t,rfl⟩:=r;rfl
 |flt _=>obtain⟨t,rfl⟩:=r;rfl
 |ref _=>cases r;rfl
 |ty _=>cases r;rfl
variable{y:V}
def OW.inj(r:OW x u)(q:OW y u):x=y:=Lc (r.abs.symm.trans q.abs)
def OV.inj:∀{xs ys:Uv}{us:List Uk},OV xs us->OV ys us->xs=ys
 |_,_,_,.nil,.nil=>rfl
 |_,_,_,.cons r t,.cons r' t'=>by rw[r.inj r',OV.inj t t']
section
variable{X:Cx}{MC:List (Ul×Obj)}{σ:St}{H:Hp}{s:Um}{a:Ul}{xs ys:Uv}
variable{K:ZF}
def OO.of(h:H a=some (.lst xs)):OO K H a xs:=.inl (.inl h)
def ON.of(h:H a=some (.tup xs)):ON K H a xs:=.inl (.inl h)
def OR.list(I:OR X MC σ H s)(h:OO X.K H a xs):∃f':List Uk,OV xs f'/\PlainL s.heap a f'.toArray/\xs.length<=sizeLine:=by
 rcases h with h|⟨o,f',n,hk,hc,hd,hs,hz,r⟩
 ·obtain⟨z,f',n,r,e⟩:=h.ok I.hok;exact⟨f',r,⟨_,n,e,rfl,rfl,rfl⟩,z⟩
 ·refine⟨f'.toList,r,⟨o,n,I.kIn a o hk,hc,hd,by simpa using hs⟩,?_⟩;have e:=r.length;simp only[RK]at e;lia
def OR.tuple(I:OR X MC σ H s)(h:ON X.K H a xs):∃f':List Uk,OV xs f'/\IsTup s.heap a f'.toArray/\xs.length<=sizeLine:=by
 rcases h with h|⟨o,f',n,hk,hc,hs,hz,r⟩
 ·obtain⟨z,f',r,p⟩:=h.ok I.hok;exact⟨f',r,p.up,z⟩
 ·refine⟨f'.toList,r,⟨o,I.kIn a o hk,hc,n,by simpa using hs⟩,?_⟩;have e:=r.length;simp only[RK]at e;lia
def OR.list_inj(I:OR X MC σ H s)(h:OO X.K H a xs)(h':OO X.K H a ys):xs=ys:=by
 obtain⟨f',r,⟨o,n,e,_,_,d⟩,_⟩:=I.list h;obtain⟨its',r',⟨o',n',e',_,_,d'⟩,_⟩:=I.list h';rw[e]at e';cases e';rw[d]at d';injection d' with d1 _;have:f'=its':=by simpa using d_ Array.toList d1
 subst this;exact r.inj r'
def OR.tuple_inj(I:OR X MC σ H s)(h:ON X.K H a xs)(h':ON X.K H a ys):xs=ys:=by
 obtain⟨f',r,⟨o,e,_,n,d⟩,_⟩:=I.tuple h;obtain⟨its',r',⟨o',e',_,n',d'⟩,_⟩:=I.tuple h';rw[e]at e';cases e';rw[d]at d';injection d' with d1 _;have:f'=its':=by simpa using d_ Array.toList d1
 subst this;exact r.inj r'
end
abbrev Cx.wish(X:Cx)(E:Uk->Um->Prop):Cx:={X with xe:=E}
abbrev Cx.nox(X:Cx):Cx:=X.wish fun _ _=>False
def Cx.Ok.wish(ok:X.Ok)(E:Uk->Um->Prop):(X.wish E).Ok:=
 ⟨ok.mod,ok.kind,ok.glob,ok.blt,ok.above,ok.inj,ok.has,ok.cab,ok.hd,ok.frames,ok.stk,ok.exf,ok.bs,ok.bsz,ok.noex,ok.exfs,ok.funs,ok.frf⟩
def Cx.Ok.unwish(ok:(X.wish E).Ok):X.Ok:=
 ⟨ok.mod,ok.kind,ok.glob,ok.blt,ok.above,ok.inj,ok.has,ok.cab,ok.hd,ok.frames,ok.stk,ok.exf,ok.bs,ok.bsz,ok.noex,ok.exfs,ok.funs,ok.frf⟩
section
variable{X:Cx}{MC:List (Ul×Obj)}{σ:St}{H:Hp}{s:Um}{E:Uk->Um->Prop}
def OR.wish(I:OR X MC σ H s)(E:Uk->Um->Prop):OR (X.wish E) MC σ H s:=⟨I.ok.wish E,I.os,I.bare,I.base,I.loc,I.cell,I.free,I.freeC,I.pin,I.hok,I.len⟩
def OR.unwish(I:OR (X.wish E) MC σ H s):OR X MC σ H s:=⟨I.ok.unwish,I.os,I.bare,I.base,I.loc,I.cell,I.free,I.freeC,I.pin,I.hok,I.len⟩
def SP.unwish{D:gD}{f:Flow}{s':Um}(h:SP (X.wish E) MC D f s'):SP X MC D f s':=by
 cases f with
 |next=>obtain⟨σ',H',I,q⟩:=h;exact⟨σ',H',I.unwish,q⟩
 |brk=>obtain⟨σ',H',I,q⟩:=h;exact⟨σ',H',I.unwish,q⟩
 |cont=>obtain⟨σ',H',I,q⟩:=h;exact⟨σ',H',I.unwish,q⟩
 |ret u=>obtain⟨v,σ',H',I,r,q⟩:=h;exact⟨v,σ',H',I.unwish,r,q⟩
def Qx.nox{st:List Stmt}{t:TS}(h:Qx X.nox st t):Qx X st t:=⟨fun MC s σ H D I hw=>
 q_ (h MC s σ H D (I.wish _) hw) (fun _ _ q=>q.unwish) fun _ _ z=>False.elim z⟩
end
section
variable{X:Cx}{st:Stmt}{j':List Stmt}{t u:TS}{e:Expr}{te:TE}{pos:Pos}
def GG:TS:=fun D σ H=>D.nx σ H
def IQ(t u:TS):TS:=fun D σ H=>t {D with nx:=u D} σ H
def aG:Qx X [] GG:=⟨fun _ _ σ H _ I h=>RL ⟨σ,H,I,h⟩⟩
def ac(h1:PS X st t)(h2:Qx X j' u):Qx X (st::j') (IQ t u):=by
 refine⟨?_⟩;intro MC s σ H D I h;refine wpAny_execs_cons (cg (h1 MC s σ H {D with nx:=u D} I h) fun f s1 q=>?_);cases f with
 |next=>
  obtain⟨σ',H',I',q⟩:=q;exact h2 MC s1 σ' H' D I' q
 |ret v=>exact q
 |brk=>exact q
 |cont=>exact q
def ag(h1:PS X st t):Qx X [st] t:=by
 refine⟨?_⟩;intro MC s σ H D I h;refine wpAny_execs_cons (cg (h1 MC s σ H D I h) fun f s1 q=>?_);cases f with
 |next=>exact RL q
 |ret v=>exact q
 |brk=>exact q
 |cont=>exact q
def OR.quiet{MC:List (Ul×Obj)}{σ:St}(I:OR X MC σ H s):interactive X.env=false:=by simp[interactive,I.ok.kind]
def GH(te:TE):TS:=fun D σ H=>te σ H fun _ H1=>D.nx σ H1
def aQ(he:PE X e te)(hs:swapsWith e none pos.line X.env=pure false:=by rfl):PS X (.Expr e pos) (GH te):=by
 refine⟨?_⟩;intro MC s σ H D I h;exact wpAny_Expr_any (cg (he MC s σ H _ I h) fun v s1⟨x,H1,I1,r1,q1⟩=>⟨σ,H1,I1,q1⟩) I.quiet hs
def GI(te:TE):TS:=fun D σ H=>te σ H D.rt
def aw(he:PE X e te):PS X (.Return (some e) pos) (GI te):=by
 refine⟨?_⟩;intro MC s σ H D I h;exact wpAny_Return_some (cg (he MC s σ H _ I h) fun v s1⟨x,H1,I1,r1,q1⟩=>⟨x,σ,H1,I1,r1,q1⟩)
def IU(c:TT)(t u:TS):TS:=fun D σ H=>c σ H fun b H1=>if b=true then t D σ H1 else u D σ H1
def aT{c:Expr}{a b:List Stmt}{tc:TT}(hc:PT X c tc)(ha:Qx X a t)(hb:Qx X b u):PS X (.If c a b pos) (IU tc t u):=by
 refine⟨?_⟩;intro MC s σ H D I h;refine wpAny_If (cg (hc MC s σ H _ I h) fun d s1⟨H1,I1,q1⟩=>?_);cases d with
 |true=>exact ha MC s1 σ H1 D I1 q1
 |false=>exact hb MC s1 σ H1 D I1 q1
def Ef:TS:=fun _ _ _=>False
def bV:PS X st Ef:=⟨fun _ _ _ _ _ _ h=>h.elim⟩
end
abbrev TG:=V->St->Hp->(St->Hp->Prop)->Prop
abbrev Gu:=Uv->St->Hp->(St->Hp->Prop)->Prop
def PG(X:Cx)(Yz:Expr)(t:TG):Prop:=
 ∀(MC:List (Ul×Obj))(s:Um)(σ:St)(H:Hp)(v:V)(u:Uk)(Q:St->Hp->Prop),OR X MC σ H s->OW v u->t v σ H Q->
  wpAny (model X.prog X.w) X.A (assign Yz X.env u) (fun _ s'=>∃σ' H',OR X MC σ' H' s'/\Q σ' H') X.xe s
def GJ(X:Cx)(ts:List Expr)(t:Gu):Prop:=
 ∀(MC:List (Ul×Obj))(s:Um)(σ:St)(H:Hp)(vs:Uv)(us:List Uk)(Q:St->Hp->Prop),OR X MC σ H s->OV vs us->t vs σ H Q->
  wpAny (model X.prog X.w) X.A (assignInOrder ((assignEach ts X.env).map (·.2)) us) (fun _ s'=>∃σ' H',OR X MC σ' H' s'/\Q σ' H') X.xe s
abbrev Eg:=V->V->V->Hp->(Hp->Prop)->Prop
def GK(X:Cx)(t:Eg):Prop:=
 ∀(MC:List (Ul×Obj))(s:Um)(σ:St)(H:Hp)(o i v:V)(ov iv u:Uk)(Q:Hp->Prop),OR X MC σ H s->OW o ov->OW i iv->OW v u->t o i v H Q->
  wpAny (model X.prog X.w) X.A (setItem ov iv u) (fun _ s'=>∃H',OR X MC σ H' s'/\Q H') X.xe s
abbrev IV:=V->V->Hp->VK->Prop
def J7(X:Cx)(op:Operator)(t:IV):Prop:=
 ∀(MC:List (Ul×Obj))(s:Um)(σ:St)(H:Hp)(x y:V)(v u:Uk)(Q:VK),OR X MC σ H s->OW x v->OW y u->t x y H Q->
  wpAny (model X.prog X.w) X.A (inplaceOp op v u) (EP X MC σ Q) X.xe s
section
variable{X:Cx}{pos:Pos}
def vq(i:Nat):TG:=fun v σ H Q=>Q (σ.set i (some v)) H
variable{i:Nat}
def Bi{x:Str}(hN:X.N.Nodup)(hi:X.N[i]?=some x)(hx:Ea X.env.scope x)(hf:X.fn x=true\/X.env.scope.names.lookup x=some .local:=by first|exact .inl rfl|exact .inr rfl|assumption):PG X (.Name x pos) (vq i):=by
 intro MC s σ H v u Q I r h;exact wpAny_assign_Name (kM I hN hi hx r (fun s' I'=>⟨_,H,I',h⟩) hf)
def cq{i:Nat}{x:Str}(hN:X.N.Nodup)(hi:X.N[i]?=some x:=by rfl)(hx:Ea X.env.scope x:=by exact Or.inl rfl)(hf:X.fn x=true\/X.env.scope.names.lookup x=some .local:=by first|exact .inl rfl|exact .inr rfl|assumption):PG X (.Name x pos) (vq i):=Bi hN hi hx hf
def IX:Gu:=fun vs σ H Q=>vs=[]/\Q σ H
inductive Dj(t:TG)(u:Gu)(vs:Uv)(σ:St)(H:Hp)(Q:St->Hp->Prop):Prop
 |mk(v r:_):vs=v::r->(t v σ H fun σ' H'=>u r σ' H' Q)->Dj t u vs σ H Q
def br:GJ X [] IX:=by
 intro MC s σ H vs us Q I r h;obtain⟨e,h⟩:=h;subst e;cases r;exact assignInOrder_nil ⟨σ,H,I,h⟩
variable{es:List Expr}
def aA{t:TG}{u:Gu}(h1:PG X e t)(h2:GJ X es u)
  (hs:(assignEach (e::es) X.env).map (·.2)=assign e X.env::(assignEach es X.env).map (·.2):=by rfl):GJ X (e::es) (Dj t u):=by
 intro MC s σ H vs us Q I r h;obtain⟨v,vr,e1,h⟩:=h;subst e1;cases r with
 |cons r rr=>
  rw[hs];refine assignInOrder_cons (cg (h1 MC s σ H _ _ _ I r h) fun _ s1⟨σ1,H1,I1,q1⟩=>?_);exact h2 MC s1 σ1 H1 _ _ Q I1 rr q1
inductive Eh(K:ZF)(n:Nat)(t:Gu)(v:V)(σ:St)(H:Hp)(Q:St->Hp->Prop):Prop
 |mk(a xs:_):v=.ref a->ON K H a xs->xs.length=n->t xs σ H Q->Eh K n t v σ H Q
def cr{k:Nat}{t:Gu}{n:Nat}(hc:X.calm=true)(h:GJ X es t)
  (hn:(assignEach es X.env).length=n:=by rfl) (UK:(assignEach es X.env).findIdx? (·.1)=none:=by rfl):PG X (.Tuple es k pos) (Eh X.K n t):=by
 intro MC s σ H v u Q I r hw;obtain⟨a,xs,e1,hq,hl,hw⟩:=hw;subst e1;cases r;obtain⟨f',rv,ht,hz⟩:=I.tuple hq;refine assign_Tuple_tuple (I.ok.hd hc) ht (by simp[hn,<-hl,rv.length]) UK fun h' hx=>?_;have I1:OR X MC σ H {s with heap:=h'}:=I.kept (t':=s.toks) fun b o e=>hx b o (Lk (K1 e)) e;exact h MC _ σ H xs _ Q I1 (by simpa using rv) hw
def IY(to ti:TE)(t:Eg):TG:=fun v σ H Q=>to σ H fun o H1=>ti σ H1 fun i H2=>t o i v H2 fun H3=>Q σ H3
def iq{o i:Expr}{to ti:TE}{t:Eg}(ho:PE X o to)(hi:PE X i ti)(hs:GK X t)
  (ha:∀v,assign (.Subscript o i pos) X.env v=(do
   let ov <-holding [v] (eval o X.env)
   let iv <-holding [v,ov] (eval i X.env)
   standAt pos
   holding [v,ov,iv] (setItem ov iv v)
   release [v,ov,iv] []):=by intro _;rfl):PG X (.Subscript o i pos) (IY to ti t):=by
 intro MC s σ H v u Q I r h;rw[ha];refine c_ (wpAny_holding (cg (ho MC s σ H _ I h) fun ov s1 hZZ=>?_));obtain⟨x,H1,I1,r1,q1⟩:=hZZ;refine c_ (wpAny_holding (cg (hi MC s1 σ H1 _ I1 q1) fun iv s2 hZZ=>?_));obtain⟨y,H2,I2,r2,q2⟩:=hZZ;refine c_ (R1 (c_ (wpAny_holding (cg (hs MC s2 σ H2 x y v ov iv u _ I2 r1 r2 r q2) fun _ s3⟨H3,I3,q3⟩=>?_))));exact wpAny_release ⟨σ,H3,I3,q3⟩
def Ei(te:TE)(g:TG):TS:=fun D σ H=>te σ H fun x H1=>g x σ H1 D.nx
variable{te:TE}
def df{tg e:Expr}{g:TG}(he:PE X e te)(hg:PG X tg g)(hs:swapsWithSole [tg] e pos.line X.env=pure false:=by rfl)(hw:swappedStores [tg] e X.env=pure none:=by rfl)
  (h1:(assignEach [tg] X.env).map (·.2)=[assign tg X.env]:=by rfl):PS X (.Assign [tg] e pos) (Ei te g):=by
 refine⟨?_⟩;intro MC s σ H D I h;refine wpAny_Assign_stores (cg (he MC s σ H _ I h) fun v s1 hZZ=>?_) hs hw;obtain⟨x,H1,I1,r1,q1⟩:=hZZ;rw[h1];exact cg (hg MC s1 σ H1 x v _ I1 r1 q1) fun _ s2 q=>q
def Ej{x:Str}{UH:Pos}(hN:X.N.Nodup)(hi:X.N[i]?=some x)(hx:Ea X.env.scope x)(he:PE X e te)(hs:swapsWith e (some (.Name x UH)) pos.line X.env=pure false:=by rfl)(hf:X.fn x=true\/X.env.scope.names.lookup x=some .local:=by first|exact .inl rfl|exact .inr rfl|assumption):
  PS X (.Assign [.Name x UH] e pos) (Ei te (vq i)):=by
 refine⟨?_⟩;intro MC s σ H D I h;refine wpAny_Assign_Name (cg (he MC s σ H _ I h) fun v s1 hZZ=>?_) hs;obtain⟨y,H1,I1,r1,q1⟩:=hZZ;exact kM I1 hN hi hx r1 (fun s2 I2=>⟨_,H1,I2,q1⟩) hf
def bL{i:Nat}{x:Str}{e:Expr}{te:TE}{UH:Pos}(hN:X.N.Nodup)(he:PE X e te)(hi:X.N[i]?=some x:=by rfl)(hx:Ea X.env.scope x:=by exact Or.inl rfl)(hs:swapsWith e (some (.Name x UH)) pos.line X.env=pure false:=by rfl)(hf:X.fn x=true\/X.env.scope.names.lookup x=some .local:=by first|exact .inl rfl|exact .inr rfl|assumption):PS X (.Assign [.Name x UH] e pos) (Ei te (vq i)):=Ej hN hi hx he hs hf
inductive GL(i:Nat)(te:TE)(ti:IV)(D:gD)(σ:St)(H:Hp):Prop
 |mk(x:_):σ[i]?=some (some x)->(te σ H fun y H1=>ti x y H1 fun z H2=>D.nx (σ.set i (some z)) H2)->GL i te ti D σ H
def sM{x:Str}{op:Operator}{ti:IV}{UH:Pos}(hN:X.N.Nodup)(hi:X.N[i]?=some x)(hx:Ea X.env.scope x)(he:PE X e te)(ho:J7 X op ti)(hf:X.fn x=true\/X.env.scope.names.lookup x=some .local:=by first|exact .inl rfl|exact .inr rfl|assumption):
  PS X (.AugAssign (.Name x UH) op e pos) (GL i te ti):=by
 refine⟨?_⟩;intro MC s σ H D I h;obtain⟨v,e1,h⟩:=h;obtain⟨m,hn,hl⟩:=I.loc;have vis:Ix X.env.scope x:=by rcases hx with k|k;exact .inl k;exact .inr (.inl k)
 obtain⟨u,r,l⟩:=hl i x v hi e1 vis;refine wpAny_AugAssign_Name ?_;have go:wpAny (model X.prog X.w) X.A (eval e X.env) (fun w s₂=>wpAny (model X.prog X.w) X.A (inplaceOp op u w) (fun r s₃=>wpAny (model X.prog X.w) X.A (storeName X.env x r) (fun _=>SP X MC D .next) X.xe s₃) X.xe s₂) X.xe s:=by
  refine cg (he MC s σ H _ I h) fun w s1 hZZ=>?_;obtain⟨y,H1,I1,r1,q1⟩:=hZZ;refine cg (ho MC s1 σ H1 v y u w _ I1 r r1 q1) fun z s2 hZZ=>?_;obtain⟨zv,H2,I2,r2,q2⟩:=hZZ;exact kM I2 hN hi hx r2 (fun s3 I3=>⟨_,H2,I3,q2⟩) hf
 rcases l with⟨hk,hm⟩|⟨hk,c,hc,UY⟩
 ·exact wpAny_loadName_local I.ok.kind hk hn hm go
 ·rcases hk with hk|hk
  ·exact wpAny_loadName_cell I.ok.kind hk hc UY go
  ·rcases hx with k|k
   ·have:X.env.scope.names.lookup x=some .free:=hk;rw[k]at this;cases this
   ·have:X.env.scope.names.lookup x=some .free:=hk;rw[k]at this;cases this
inductive J8(f:Int->Int->Int)(x:V)(y:V)(H:Hp)(Q:VK):Prop
 |mk(i j:_):x=.int i->y=.int j->Q (.int (f i j)) H->J8 f x y H Q
def sN:J7 X .Add (J8 fun i j=>i+j):=by
 intro MC s σ H x y v u Q I r1 r2 h;obtain⟨i,j,e1,e2,q⟩:=h;subst e1;subst e2;obtain⟨t,rfl⟩:=r1;obtain⟨t',rfl⟩:=r2;exact iadd_int ⟨.int _,H,I.tok _,⟨_,rfl⟩,q⟩
end
section
variable{X:Cx}{pos:Pos}
inductive xR(c:TT)(tb:TS)(D:gD)(σ:St)(H:Hp):Prop
 | mk (W:Nat->St->Hp->Prop):(∃m,W m σ H)->(∀m σ H,W m σ H->
 c σ H fun b H1=>if b=true then ∃N:St->Hp->Prop,(∀σ' H',N σ' H'->∃m',m'<m/\W m' σ' H')/\tb {D with nx:=N,ct:=N,bk:=D.nx} σ H1 else D.nx σ H1)->xR c tb D σ H
def fW{c:Expr}{body:List Stmt}{tc:TT}{tb:TS}(hp:PassesOwn (model X.prog X.w) X.A X.env X.xe)(hc:PT X c tc)(hb:Qx X body tb):PS X (.While c body [] pos) (xR tc tb):=by
 refine⟨?_⟩;intro MC s σ H D I h;obtain⟨W,⟨m0,w0⟩,Vh⟩:=h;refine wpAny_While (codeAny_whileLoop (fun n s'=>∃σ' H',OR X MC σ' H' s'/\W n σ' H') ?_ m0 ⟨σ,H,I,w0⟩);rintro n s1 ⟨σ1,H1,I1,w1⟩;refine s_ hp (cg (hc MC s1 σ1 H1 _ I1 (Vh n σ1 H1 w1)) fun b s2⟨H2,I2,q2⟩=>?_);cases b with
 |true=>
  obtain⟨N,hN,q2⟩:=q2;rw[f_ rfl];refine s_ hp (cg (hb MC s2 σ1 H2 _ I2 q2) fun f s3 q3=>?_);cases f with
  |next=>
   obtain⟨σ3,H3,I3,n3⟩:=q3;obtain⟨m',hm,w3⟩:=hN σ3 H3 n3;exact⟨m',hm,σ3,H3,I3,w3⟩
  |cont=>
   obtain⟨σ3,H3,I3,n3⟩:=q3;obtain⟨m',hm,w3⟩:=hN σ3 H3 n3;exact⟨m',hm,σ3,H3,I3,w3⟩
  |brk=>exact q3
  |ret v=>exact q3
 |false=>
  rw[e_ K5];exact RL ⟨σ1,H2,I2,q2⟩
end
structure It where
 go:Nat->Hp->Prop
 yld:Nat->Hp->V->Hp->Prop
 stop:Nat->Hp->Prop
def mR(X:Cx)(MC:List (Ul×Obj))(H:Hp)(b:Ul):Prop:=
 H b=none/\b≠X.env.locals/\b∉X.fs/\(b∈X.ex\/X.s₀.heap.objs.size<=b)/\(∀x c,X.env.cells.lookup x=some c->c≠b)/\∀p∈X.pn++MC,p.1≠b
variable{σ:St}{MC:List (Ul×Obj)}
def OR.fpOk{H H':Hp}(I:OR X MC σ H s)(hb:s.heap.objs.size<=b)(hn:H' b=none):mR X MC H' b:=by
 refine⟨hn,RY (Lf I.lt hb),I.nofs hb,.inr (Ll I.sz hb),fun x c e z=>?_,fun p hp z=>?_⟩
 ·obtain⟨v,q⟩:=I.cell x c e;exact absurd (Lf q.lt (by rw[z];exact hb)) (Mf _)
 ·exact absurd (Lf (K1 (I.pin p hp).1) (by rw[z];exact hb)) (Mf _)
structure on(P:Uo)(w:Up)(K:ZF)(tg:Expr)(J:It)(fp:List Ul)(it:Ul)(tn:Nat->Heap->Prop):Prop where
 mem:it∈fp
 obj:∀i h,tn i h->∀b∈fp,∃o,h.get? b=some o/\∀v,o.data≠.cell v
 keep:∀i h h',tn i h->(∀b∈fp,∀o,h.get? b=some o->h'.get? b=some o)->tn i h'
 item:∀(X:Cx),X.prog=P->X.w=w->X.K=K->X.calm=true->∀(i:Nat)(MC:List (Ul×Obj))(s:Um)(σ:St)(H:Hp)(E:Uk->Um->Prop),OR X MC σ H s->(∀b∈fp,mR X MC H b)->tn i s.heap->J.go i H->
  wpAny (model P w) X.A (pyNext (.ref it)) (fun r s1=>∃u,r=some u /\
   wpAny (model P w) X.A (letOwnedTupleGo tg (.ref it) u) (fun _ s2=>∃x H',OR X MC σ H' s2/\OW x u/\J.yld i H x H'/\tn (i+1) s2.heap/\∀b∈fp,H' b=none) E s1) E s
 done:∀(X:Cx),X.prog=P->X.w=w->X.K=K->X.calm=true->∀(i:Nat)(MC:List (Ul×Obj))(s:Um)(σ:St)(H:Hp)(E:Uk->Um->Prop),OR X MC σ H s->(∀b∈fp,mR X MC H b)->tn i s.heap->J.stop i H->
  wpAny (model P w) X.A (pyNext (.ref it)) (fun r s1=>r=none/\OR X MC σ H s1) E s
 self:∀(A:Uq)(i:Nat)(s:Um)(Q:Uk->Um->Prop)(E:Uk->Um->Prop),tn i s.heap->Q (.ref it) s->wpAny (model P w) A (pyIter (.ref it)) Q E s
abbrev TI:=St->Hp->(It->Hp->Prop)->Prop
inductive Iy(X:Cx)(MC:List (Ul×Obj))(σ:St)(tg:Expr)(R:It->Hp->Prop)(itv:Uk)(s2:Um):Prop
 |mk(it:Ul)(fp:List Ul)(tn:Nat->Heap->Prop)(J:It)(H':Hp):itv=.ref it->OR X MC σ H' s2->on X.prog X.w X.K tg J fp it tn->tn 0 s2.heap->(∀b∈fp,mR X MC H' b)->R J H'->Iy X MC σ tg R itv s2
structure PI(X:Cx)(tg G':Expr)(wi:TI):Prop where
 run:∀(MC:List (Ul×Obj))(s:Um)(σ:St)(H:Hp)(R:It->Hp->Prop),OR X MC σ H s->wi σ H R->
  wpAny (model X.prog X.w) X.A (eval G' X.env) (fun v s1=>wpAny (model X.prog X.w) X.A (pyIter v) (Iy X MC σ tg R) X.xe s1) X.xe s
instance {X:Cx}{tg G':Expr}{wi:TI}:CoeFun (PI X tg G' wi) fun _=>∀(MC:List (Ul×Obj))(s:Um)(σ:St)(H:Hp)(R:It->Hp->Prop),OR X MC σ H s->wi σ H R->
  wpAny (model X.prog X.w) X.A (eval G' X.env) (fun v s1=>wpAny (model X.prog X.w) X.A (pyIter v) (Iy X MC σ tg R) X.xe s1) X.xe s:=⟨PI.run⟩
def qM{M:Model}{A:Uq}{E:Uk->Um->Prop}{tg:Expr}{it:Ul}{u:Uk}{o:Obj}{n:String}{vs:Array Uk}{Q:Unit->Um->Prop}(ho:s.heap.get? it=some o)(hc:o.cls=.type n)(hd:o.data=.fields vs)
  (hn:["enumerate","zip","dict_itemiterator","dict_reverseitemiterator","odict_iterator","itertools.zip_longest","itertools.pairwise"].contains n=false) (hQ:Q () s):wpAny M A (letOwnedTupleGo tg (.ref it) u) Q E s:=by
 unfold letOwnedTupleGo;cases tg<;>first
  |exact i_ hQ
  | (cases u<;>first
    |exact i_ hQ
    | (refine c_ (wpAny_load ho ?_)
       rw[hc,hd];show wpAny M A (if(["enumerate","zip","dict_itemiterator","dict_reverseitemiterator","odict_iterator","itertools.zip_longest","itertools.pairwise"].contains n&&vs[0]?==some (rawInt _))=true then _ else _) Q E s;rw[e_ (by intro h;rw[hn,Bool.false_and]at h;cases h)];exact i_ hQ))
def Gv(K:ZF)(a:Ul):It:=
 ⟨fun i H=>∃xs x,OO K H a xs/\xs[i]?=some x,fun i H x H'=>H'=H/\∀xs,OO K H a xs->xs[i]?=some x,fun i H=>∃xs,OO K H a xs/\xs.length<=i⟩
def Gw(K:ZF)(a:Ul):It:=
 ⟨fun i H=>∃xs x,ON K H a xs/\xs[i]?=some x,fun i H x H'=>H'=H/\∀xs,ON K H a xs->xs[i]?=some x,fun i H=>∃xs,ON K H a xs/\xs.length<=i⟩
def Gx(lo:Int)(n:Nat):It:=⟨fun i _=>i<n,fun i H x H'=>H'=H/\x=.int (lo+i),fun i _=>n<=i⟩
variable{tg:Expr}{K:ZF}
def wL(a it:Ul):on P w K tg (Gv K a) [it] it (fun i h=>h.IsListIter it a i) where
 mem:=by simp
 obj:=fun i h st b hb=>by
  have e:b=it:=by simpa using hb
  subst e;obtain⟨o,e,c,d⟩:=st;exact⟨o,e,fun v z=>by rw[d]at z;cases z⟩
 keep:=fun i h h' st k=>st.at fun o e=>k it (by simp) o e
 item:=by
  intro X hP hw hK hc i MC s σ H E I hf st hg;subst hP hw hK;obtain⟨xs,x,hq,hx⟩:=hg;obtain⟨f',rv,p,hz⟩:=I.list hq;obtain⟨u,hu,ru⟩:=rv.get hx;obtain⟨f0,f1,f2,f3,f4,f5⟩:=hf it (by simp);refine wpAny_pyNext_list_item st p.isList (x:=u) (by simpa using hu) fun h' VR sb=>?_;have I1:OR X MC σ H {s with heap:=h'}:=I.turned (t':=s.toks) (fun b o hb e=>(sb.2 b hb).trans e) f0 f1 f3 f4 f5;obtain⟨o,e,c,d⟩:=id VR;exact⟨u,rfl,qM (s:={s with heap:=h'}) e c d zd ⟨x,H,I1,ru,⟨rfl,fun ys hy=>by rw[I.list_inj hy hq];exact hx⟩,VR,fun b hb=>(hf b hb).1⟩⟩
 done:=by
  intro X hP hw hK hc i MC s σ H E I hf st hg;subst hP hw hK;obtain⟨xs,hq,hx⟩:=hg;obtain⟨f',rv,p,hz⟩:=I.list hq;obtain⟨f0,f1,f2,f3,f4,f5⟩:=hf it (by simp);have hl:=rv.length;exact wpAny_pyNext_list_end (I.ok.hd hc) st p.isList (by simp;lia) fun h' eb=>⟨rfl,I.turned (t':=s.toks) (fun b o hb e=>eb b o hb e) f0 f1 f3 f4 f5⟩
 self:=fun _ _ _ _ _ st h=>wpAny_pyIter_listiter st h
def sO(a it:Ul):on P w K tg (Gw K a) [it] it (fun i h=>h.IsTupleIter it a i) where
 mem:=by simp
 obj:=fun i h st b hb=>by
  have e:b=it:=by simpa using hb
  subst e;obtain⟨o,e,c,d⟩:=st;exact⟨o,e,fun v z=>by rw[d]at z;cases z⟩
 keep:=fun i h h' st k=>st.at fun o e=>k it (by simp) o e
 item:=by
  intro X hP hw hK hc i MC s σ H E I hf st hg;subst hP hw hK;obtain⟨xs,x,hq,hx⟩:=hg;obtain⟨f',rv,p,hz⟩:=I.tuple hq;obtain⟨u,hu,ru⟩:=rv.get hx;obtain⟨f0,f1,f2,f3,f4,f5⟩:=hf it (by simp);refine wpAny_pyNext_tuple_item st (show s.heap.IsTuple a f'.toArray from p) (x:=u) (by simpa using hu) fun h' VR sb=>?_;have I1:OR X MC σ H {s with heap:=h'}:=I.turned (t':=s.toks) (fun b o hb e=>(sb.2 b hb).trans e) f0 f1 f3 f4 f5;obtain⟨o,e,c,d⟩:=id VR;exact⟨u,rfl,qM (s:={s with heap:=h'}) e c d zd ⟨x,H,I1,ru,⟨rfl,fun ys hy=>by rw[I.tuple_inj hy hq];exact hx⟩,VR,fun b hb=>(hf b hb).1⟩⟩
 done:=by
  intro X hP hw hK hc i MC s σ H E I hf st hg;subst hP hw hK;obtain⟨xs,hq,hx⟩:=hg;obtain⟨f',rv,p,hz⟩:=I.tuple hq;obtain⟨f0,f1,f2,f3,f4,f5⟩:=hf it (by simp);have hl:=rv.length;exact wpAny_pyNext_tuple_end (I.ok.hd hc) st (show s.heap.IsTuple a f'.toArray from p) (by simp;lia) fun h' eb=>⟨rfl,I.turned (t':=s.toks) (fun b o hb e=>eb b o hb e) f0 f1 f3 f4 f5⟩
 self:=fun _ _ _ _ _ st h=>wpAny_pyIter_tupleiter st h
def sP(it:Ul)(lo:Int)(n:Nat):on P w K tg (Gx lo n) [it] it (fun i h=>IsRangeIter h it (lo+(i:Nat)*1) ((n:Int)-(i:Nat)) 1) where
 mem:=by simp
 obj:=fun i h st b hb=>by
  have e:b=it:=by simpa using hb
  subst e;exact⟨_,st,fun v z=>by
   have z':Data.fields _=Data.cell v:=z;cases z'⟩
 keep:=fun i h h' st k=>k it (by simp) _ st
 item:=by
  intro X hP hw hK hc i MC s σ H E I hf st hg;subst hP hw hK;obtain⟨f0,f1,f2,f3,f4,f5⟩:=hf it (by simp);have W:=Walks.range (prog:=X.prog) (w:=X.w) (I.ok.hd hc) it lo 1 n;refine W.item i s _ _ hg st fun v h' tk hv VR kk=>?_;obtain⟨t,rfl⟩:=hv;have I1:OR X MC σ H {s with heap:=h',toks:=tk}:=I.turned (fun b o hb e=>kk b o (by simpa using hb) e) f0 f1 f3 f4 f5;refine⟨_,rfl,qM (s:={s with heap:=h',toks:=tk}) (n:="range_iterator") VR rfl rfl zd ⟨.int (lo+i),H,I1,⟨t,?_⟩,⟨rfl,rfl⟩,VR,fun b hb=>(hf b hb).1⟩⟩;rw[Int.mul_one]
 done:=by
  intro X hP hw hK hc i MC s σ H E I hf st hg;subst hP hw hK;obtain⟨f0,f1,f2,f3,f4,f5⟩:=hf it (by simp);exact wpAny_pyNext_range_end (I.ok.hd hc) st (by have:n<=i:=hg;lia) fun h' eb=>⟨rfl,I.turned (t':=s.toks) (fun b o hb e=>eb b o hb e) f0 f1 f3 f4 f5⟩
 self:=fun _ _ _ _ _ st h=>wpAny_pyIter_rangeiter st h
section
variable{X:Cx}{tg:Expr}
inductive xS(K:ZF)(R:It->Hp->Prop)(x:V)(H1:Hp):Prop
 |mk(a:_):x=.ref a->(∃xs,OO K H1 a xs)->R (Gv K a) H1->xS K R x H1
def GN(K:ZF)(tl:TE):TI:=fun σ H R=>tl σ H fun x H1=>xS K R x H1
inductive Dk(K:ZF)(R:It->Hp->Prop)(x:V)(H1:Hp):Prop
 |mk(a:_):x=.ref a->(∃xs,ON K H1 a xs)->R (Gw K a) H1->Dk K R x H1
def IZ(K:ZF)(tl:TE):TI:=fun σ H R=>tl σ H fun x H1=>Dk K R x H1
def cm{l:Expr}{tl:TE}(hl:PE X l tl):PI X tg l (GN X.K tl):=by
 refine⟨?_⟩;intro MC s σ H R I h;refine cg (hl MC s σ H _ I h) fun v s1 hZZ=>?_;obtain⟨x,H1,I1,r1,q1⟩:=hZZ;obtain⟨a,e,⟨xs,hq⟩,q⟩:=q1;subst e;cases r1;obtain⟨f',rv,p,hz⟩:=I1.list hq;refine R_ p.isList ?_;refine⟨s1.heap.objs.size,[s1.heap.objs.size],_,_,H1,rfl,I1.kept (t':=s1.toks) fun b o e=>KE _ e,wL a _,⟨_,K9 _ rfl,rfl,rfl⟩,fun b hb=>?_,q⟩;have e:b=s1.heap.objs.size:=by simpa using hb
 subst e;exact I1.fpOk (KO _) (I1.hok.fresh (KO _))
def kN{l:Expr}{tl:TE}(hl:PE X l tl):PI X tg l (IZ X.K tl):=by
 refine⟨?_⟩;intro MC s σ H R I h;refine cg (hl MC s σ H _ I h) fun v s1 hZZ=>?_;obtain⟨x,H1,I1,r1,q1⟩:=hZZ;obtain⟨a,e,⟨xs,hq⟩,q⟩:=q1;subst e;cases r1;obtain⟨f',rv,p,hz⟩:=I1.tuple hq;refine I_ (show s1.heap.IsTuple a f'.toArray from p) ?_;refine⟨s1.heap.objs.size,[s1.heap.objs.size],_,_,H1,rfl,I1.kept (t':=s1.toks) fun b o e=>KE _ e,sO a _,⟨_,K9 _ rfl,rfl,rfl⟩,fun b hb=>?_,q⟩;have e:b=s1.heap.objs.size:=by simpa using hb
 subst e;exact I1.fpOk (KO _) (I1.hok.fresh (KO _))
def xT{R:It->Hp->Prop}{E:Uk->Um->Prop}{lo hi:Int}{t u v:Tok}{tk:Nat}(I:OR X MC σ H s)(h1:-(2^62)<=lo)(h2:lo<2^62)(h3:-(2^62)<=hi)(h4:hi<2^62)
  (q:R (Gx lo (hi-lo).toNat) H):wpAny (model X.prog X.w) X.A (pyIter (.ref s.heap.objs.size)) (Iy X MC σ tg R) E {s with heap:=s.heap.push {cls:=.type "range",data:=.fields #[.int lo t,.int hi u,.int 1 v]},toks:=tk}:=by
 refine wpAny_pyIter_range (IsRange.new ..) (small_one h1 h2 h3 h4) ?_;have I1:OR X MC σ H {s with heap:=s.heap.push {cls:=.type "range",data:=.fields #[.int lo t,.int hi u,.int 1 v]},toks:=tk}:=I.kept fun b o e=>KE _ e;refine⟨(s.heap.push {cls:=.type "range",data:=.fields #[.int lo t,.int hi u,.int 1 v]}).objs.size,[(s.heap.push {cls:=.type "range",data:=.fields #[.int lo t,.int hi u,.int 1 v]}).objs.size],_,_,H,rfl,
  I1.kept (t':=tk) fun b o e=>KE _ e,sP _ lo (hi-lo).toNat,?_,fun b hb=>?_,q⟩
 ·have e1:lo+((0:Nat):Int)*1=lo:=by simp
  have e2:(((hi-lo).toNat:Nat):Int)-((0:Nat):Int)=Builtin.Range.rangeSize lo hi 1:=by rw[rangeSize_one];split<;>lia
  show IsRangeIter _ _ (lo+((0:Nat):Int)*1) ((((hi-lo).toNat:Nat):Int)-((0:Nat):Int)) 1;rw[e1,e2];exact K9 _ rfl
 ·have e:b=(s.heap.push {cls:=.type "range",data:=.fields #[.int lo t,.int hi u,.int 1 v]}).objs.size:=by simpa using hb
  subst e;exact I1.fpOk (KO _) (I1.hok.fresh (KO _))
inductive xU(R:It->Hp->Prop)(vs:Uv)(H1:Hp):Prop
 |mk(j:Int):vs=[.int j]->-(2^62)<=j->j<2^62->R (Gx 0 j.toNat) H1->xU R vs H1
def GO(ta:TA):TI:=fun σ H R=>ta σ H fun vs H1=>xU R vs H1
def dF{a:Expr}{ta:TA}{p pos:Pos}(hg:Gl X "range")(hm:X.mg "range"=none)(ha:PA X [a] ta)(hs:starEach [a] X.env=[(false,eval a X.env)]:=by rfl):PI X tg (.Call (.Name "range" p) [a] [] pos) (GO ta):=by
 refine⟨?_⟩;intro MC s σ H R I h;refine Call_ (io I hg hm boot_range (LL (cg (ha pos MC s σ H _ I h) fun us s1 hZZ=>?_) hs rfl));obtain⟨vs,H1,I1,r1,q1⟩:=hZZ;obtain⟨j,e,q1,q2,q⟩:=q1;subst e;cases r1 with
 |cons r rr=>
  cases rr;obtain⟨t,rfl⟩:=r;exact call_range_1 (xT I1 zo zo q1 q2 (by simpa using q))
def Ja(wi:TI)(g:TG)(tb:TS):TS:=fun D σ H=>wi σ H fun J H1=>∃W:Nat->Nat->St->Hp->Prop,(∃m,W 0 m σ H1)/\∀i m σ H,W i m σ H->
 (J.stop i H/\D.nx σ H)\/(J.go i H/\∃N:St->Hp->Prop,(∀σ' H',N σ' H'->∃m',m'<m/\W (i+1) m' σ' H')/\∀x H',J.yld i H x H'->g x σ H' fun σ2 H2=>tb {D with nx:=N,ct:=N,bk:=D.nx} σ2 H2)
def fQ(fp:List Ul)(h:Heap):List (Ul×Obj):=fp.filterMap fun b=>(h.get? b).map fun o=>(b,o)
variable{fp:List Ul}
def ir{o:Obj}(hb:b∈fp)(e:h.get? b=some o):(b,o)∈fQ fp h:=List.mem_filterMap.mpr ⟨b,hb,by rw[e];rfl⟩
def nh{p:Ul×Obj}(hp:p∈fQ fp h):p.1∈fp/\h.get? p.1=some p.2:=by
 obtain⟨b,hb,e⟩:=List.mem_filterMap.mp hp;cases q:h.get? b with
 |none=>rw[q]at e;cases e
 |some o=>
  rw[q]at e;have e':(b,o)=p:=Lc e;subst e';exact⟨hb,q⟩
def OR.pinned(I:OR X MC σ H s)(hf:∀b∈fp,mR X MC H b)(ho:∀b∈fp,∃o,s.heap.get? b=some o/\∀v,o.data≠.cell v):OR X (MC++fQ fp s.heap) σ H s:=
 I.pins_of fun p hp=>(La.mp hp).elim (fun z=>I.pin p (K6 _ z)) fun z=>by
  obtain⟨hb,e⟩:=nh z;obtain⟨f0,f1,f2,_⟩:=hf p.1 hb;obtain⟨o,e',d⟩:=ho p.1 hb;rw[e]at e';cases e';exact⟨e,f0,f1,f2,d⟩
def OR.unpinned{MC pl:List (Ul×Obj)}(I:OR X (MC++pl) σ H s):OR X MC σ H s:=I.pins_of fun p hp=>I.pin p (K6 _ (LI _ hp))
def cc{G':Expr}{body:List Stmt}{wi:TI}{g:TG}{tb:TS}{pos:Pos}(hp:PassesOwn (model X.prog X.w) X.A X.env X.xe)(hc:X.calm=true)(hi:PI X tg G' wi)(hg:PG X tg g)(hb:Qx X body tb)
  (hs:∀x,foldedSetIterable G' X.env x=pure x:=by intro _;rfl):PS X (.For tg G' body [] pos) (Ja wi g tb):=by
 refine⟨?_⟩;intro MC s σ H D I h;refine wpAny_For (cg (hi MC s σ H _ I h) fun v s1 h1=>cg h1 fun itv s2 h2=>?_) hs;obtain⟨it,fp,tn,J,H2,e,I2,T,Za,f2,W,⟨m0,w0⟩,Vh⟩:=h2;subst e;have Yl:∀{H':Hp},(∀b∈fp,H' b=none)->∀b∈fp,mR X MC H' b:=fun hn b hb=>⟨hn b hb,(f2 b hb).2⟩;refine codeAny_forLoop_any (fun n s'=>∃i σ' H',OR X MC σ' H' s'/\tn i s'.heap/\(∀b∈fp,H' b=none)/\W i n σ' H') ?_ m0 ⟨0,σ,H2,I2,Za,fun b hb=>(f2 b hb).1,w0⟩;rintro n s3 ⟨i,σ3,H3,I3,st3,fr3,w3⟩;rcases Vh i n σ3 H3 w3 with⟨stop,qn⟩|⟨go,N,hN,step⟩
 ·refine s_ hp (cg (T.done X rfl rfl rfl hc i MC s3 σ3 H3 X.xe I3 (Yl fr3) st3 stop) fun r s4⟨hr,I4⟩=>?_);subst hr;exact RL ⟨σ3,H3,I4,qn⟩
 ·refine s_ hp (cg (T.item X rfl rfl rfl hc i MC s3 σ3 H3 X.xe I3 (Yl fr3) st3 go) fun r s4⟨u,hr,h4⟩=>?_);subst hr;refine s_ hp (cg h4 fun _ s5 hZZ=>?_);obtain⟨x,H5,I5,r5,y5,YC,fr5⟩:=hZZ;have I5':=I5.pinned (Yl fr5) (T.obj _ _ YC);refine s_ hp (cg (hg _ s5 σ3 H5 x u _ I5' r5 (step x H5 y5)) fun _ s6⟨σ6,H6,I6,q6⟩=>?_);refine s_ hp (cg (hb _ s6 σ6 H6 _ I6 q6) fun f s7 q7=>?_);have again:∀{σ7:St}{H7:Hp},OR X (MC++fQ fp s5.heap) σ7 H7 s7->N σ7 H7->∃m,m<n/\∃i σ' H',OR X MC σ' H' s7/\tn i s7.heap/\(∀b∈fp,H' b=none)/\W i m σ' H':=fun{σ7 H7}I7 n7=>by
   obtain⟨m',hm,w7⟩:=hN σ7 H7 n7;refine⟨m',hm,i+1,σ7,H7,I7.unpinned,T.keep _ _ _ YC fun b hb o e=>(I7.pin (b,o) (K6 _ (K6 _ (ir hb e)))).1,fun b hb=>?_,w7⟩;obtain⟨o,e,d⟩:=T.obj _ _ YC b hb;exact(I7.pin (b,o) (K6 _ (K6 _ (ir hb e)))).2.1
  cases f with
  |next=>obtain⟨σ7,H7,I7,n7⟩:=q7;exact again I7 n7
  |cont=>obtain⟨σ7,H7,I7,n7⟩:=q7;exact again I7 n7
  |brk=>obtain⟨σ7,H7,I7,q7⟩:=q7;exact⟨σ7,H7,I7.unpinned,q7⟩
  |ret v=>obtain⟨x7,σ7,H7,I7,r7,q7⟩:=q7;exact⟨x7,σ7,H7,I7.unpinned,r7,q7⟩
end
def dN{g:TG}{tb:TS}{D:gD}(Pv:Nat->St->Hp->Prop)(h0:Pv 0 σ H)(hl:∀i σ H,i<=xs.length->Pv i σ H->OO K H a xs)
  (hs:∀i x σ H,xs[i]?=some x->Pv i σ H->g x σ H fun σ2 H2=>tb {D with nx:=Pv (i+1),ct:=Pv (i+1),bk:=D.nx} σ2 H2) (hd:∀σ H,Pv xs.length σ H->D.nx σ H) :
  ∃W:Nat->Nat->St->Hp->Prop,(∃m,W 0 m σ H)/\∀i m σ H,W i m σ H->
   ((Gv K a).stop i H/\D.nx σ H)\/((Gv K a).go i H/\∃N:St->Hp->Prop,(∀σ' H',N σ' H'->∃m',m'<m/\W (i+1) m' σ' H')/\∀x H',(Gv K a).yld i H x H'->g x σ H' fun σ2 H2=>tb {D with nx:=N,ct:=N,bk:=D.nx} σ2 H2):=by
 refine⟨fun i m σ H=>m=xs.length-i/\i<=xs.length/\Pv i σ H,⟨xs.length,by simp,Lh _,h0⟩,?_⟩;rintro i m σ H ⟨rfl,hi,p⟩;have q:=hl i σ H hi p;by_cases MP:i<xs.length
 ·refine .inr ⟨⟨xs,xs[i],q,by simp[MP]⟩,Pv (i+1),fun σ' H' p'=>⟨xs.length-(i+1),zo,rfl,MP,p'⟩,fun x H' y=>?_⟩;obtain⟨e,y⟩:=y;subst e;exact hs i x σ _ (y xs q) p
 ·have e:i=xs.length:=by lia
  subst e;exact .inl ⟨⟨xs,q,KO _⟩,hd σ H p⟩
def oo{g:TG}{tb:TS}{D:gD}(Pv:Nat->St->Hp->Prop)(h0:Pv 0 σ H)(hl:∀i σ H,i<=xs.length->Pv i σ H->ON K H a xs)
  (hs:∀i x σ H,xs[i]?=some x->Pv i σ H->g x σ H fun σ2 H2=>tb {D with nx:=Pv (i+1),ct:=Pv (i+1),bk:=D.nx} σ2 H2) (hd:∀σ H,Pv xs.length σ H->D.nx σ H) :
  ∃W:Nat->Nat->St->Hp->Prop,(∃m,W 0 m σ H)/\∀i m σ H,W i m σ H->
   ((Gw K a).stop i H/\D.nx σ H)\/((Gw K a).go i H/\∃N:St->Hp->Prop,(∀σ' H',N σ' H'->∃m',m'<m/\W (i+1) m' σ' H')/\∀x H',(Gw K a).yld i H x H'->g x σ H' fun σ2 H2=>tb {D with nx:=N,ct:=N,bk:=D.nx} σ2 H2):=by
 refine⟨fun i m σ H=>m=xs.length-i/\i<=xs.length/\Pv i σ H,⟨xs.length,by simp,Lh _,h0⟩,?_⟩;rintro i m σ H ⟨rfl,hi,p⟩;have q:=hl i σ H hi p;by_cases MP:i<xs.length
 ·refine .inr ⟨⟨xs,xs[i],q,by simp[MP]⟩,Pv (i+1),fun σ' H' p'=>⟨xs.length-(i+1),zo,rfl,MP,p'⟩,fun x H' y=>?_⟩;obtain⟨e,y⟩:=y;subst e;exact hs i x σ _ (y xs q) p
 ·have e:i=xs.length:=by lia
  subst e;exact .inl ⟨⟨xs,q,KO _⟩,hd σ H p⟩
def dG{lo:Int}{n:Nat}{g:TG}{tb:TS}{D:gD}(Pv:Nat->St->Hp->Prop)(h0:Pv 0 σ H)
  (hs:∀i σ H,i<n->Pv i σ H->g (.int (lo+i)) σ H fun σ2 H2=>tb {D with nx:=Pv (i+1),ct:=Pv (i+1),bk:=D.nx} σ2 H2) (hd:∀σ H,Pv n σ H->D.nx σ H) :
  ∃W:Nat->Nat->St->Hp->Prop,(∃m,W 0 m σ H)/\∀i m σ H,W i m σ H->
   ((Gx lo n).stop i H/\D.nx σ H)\/((Gx lo n).go i H/\∃N:St->Hp->Prop,(∀σ' H',N σ' H'->∃m',m'<m/\W (i+1) m' σ' H')/\∀x H',(Gx lo n).yld i H x H'->g x σ H' fun σ2 H2=>tb {D with nx:=N,ct:=N,bk:=D.nx} σ2 H2):=by
 refine⟨fun i m σ H=>m=n-i/\i<=n/\Pv i σ H,⟨n,by simp,Lh _,h0⟩,?_⟩;rintro i m σ H ⟨rfl,hi,p⟩;by_cases MP:i<n
 ·refine .inr ⟨MP,Pv (i+1),fun σ' H' p'=>⟨n-(i+1),zo,rfl,MP,p'⟩,fun x H' y=>?_⟩;obtain⟨e,y⟩:=y;subst e y;exact hs i σ _ MP p
 ·have e:i=n:=by lia
  subst e;exact .inl ⟨KO _,hd σ H p⟩
abbrev R2:=V->V->Hp->VK->Prop
def gz(X:Cx)(f:Uk->Uk->Sem Uk)(r:R2):Prop:=
 ∀(MC:List (Ul×Obj))(s:Um)(σ:St)(H:Hp)(x y:V)(v u:Uk)(Q:VK),OR X MC σ H s->OW x v->OW y u->r x y H Q->
  wpAny (model X.prog X.w) X.A (f v u) (EP X MC σ Q) X.xe s
def ff(X:Cx)(f:Uk)(r:Uv->Hp->VK->Prop):Prop:=
 ∀(MC:List (Ul×Obj))(s:Um)(σ:St)(H:Hp)(xs:Uv)(us:List Uk)(Q:VK),OR X MC σ H s->OV xs us->r xs H Q->
  wpAny (model X.prog X.w) X.A (call f us) (EP X MC σ Q) X.xe s
def Iz(r:R2)(ta tb:TE):TE:=fun σ H Q=>ta σ H fun x H1=>tb σ H1 fun y H2=>r x y H2 Q
inductive rI(C:Int->Int->Prop)(g:Int->Int->V)(x:V)(y:V)(H:Hp)(Q:VK):Prop
 |mk(i j:_):x=.int i->y=.int j->C i j->Q (g i j) H->rI C g x y H Q
inductive Bj(g:Int->Int->V)(x:V)(y:V)(H:Hp)(Q:VK):Prop
 |mk(i j:_):x=.int i->y=.int j->Q (g i j) H->Bj g x y H Q
section
variable{X:Cx}{a b c:Expr}{ta tb tc:TE}{pos:Pos}
def Ek(ha:PE X a ta)(hb:PE X b tb){R:V->V->Hp->Prop}(I:OR X MC σ H s)
  (h:ta σ H fun x H1=>tb σ H1 fun y H2=>R x y H2) {Q:Uk->Um->Prop} {f:Uk->Uk->Sem Uk}
  (hf:∀v u s2 x y H2,OR X MC σ H2 s2->OW x v->OW y u->R x y H2->wpAny (model X.prog X.w) X.A (f v u) Q X.xe s2) :
  wpAny (model X.prog X.w) X.A (eval a X.env) (fun v s₁=>wpAny (model X.prog X.w) X.A (eval b X.env) (fun u s₂=>wpAny (model X.prog X.w) X.A (f v u) Q X.xe s₂) X.xe s₁) X.xe s:=by
 refine cg (ha MC s σ H _ I h) fun v s1 hZZ=>?_;obtain⟨x,H1,I1,r1,q1⟩:=hZZ;refine cg (hb MC s1 σ H1 _ I1 q1) fun u s2 hZZ=>?_;obtain⟨y,H2,I2,r2,q2⟩:=hZZ;exact hf v u s2 x y H2 I2 r1 r2 q2
def aH{op:Operator}{r:R2}(ho:gz X (binaryOp op) r)(ha:PE X a ta)(hb:PE X b tb):PE X (.BinOp a op b pos) (Iz r ta tb):=by
 refine⟨?_⟩;intro MC s σ H Q I h;exact wpAny_BinOp (Ek ha hb I h fun v u s2 x y H2 I2 rx ry q=>ho MC s2 σ H2 x y v u Q I2 rx ry q)
def El{f:Uk->Uk->Sem Uk}{C:Int->Int->Prop}{g:Int->Int->Int}
  (rule:∀(i j:Int)(t u:Tok)(s:Um)(Q:Uk->Um->Prop)(E:Uk->Um->Prop),C i j->Q (.int (g i j) s.toks) {s with toks:=s.toks+1}->wpAny (model X.prog X.w) X.A (f (.int i t) (.int j u)) Q E s) :
  gz X f (rI C fun i j=>.int (g i j)):=by
 intro MC s σ H x y v u Q I rx ry h;obtain⟨i,j,rfl,rfl,hc,q⟩:=h;obtain⟨t,rfl⟩:=rx;obtain⟨t',rfl⟩:=ry;exact rule i j t t' s _ _ hc ⟨.int (g i j),H,I.tok _,⟨_,rfl⟩,q⟩
def GQ{f:Uk->Uk->Sem Uk}{g:Int->Int->Int}
  (rule:∀(i j:Int)(t u:Tok)(s:Um)(Q:Uk->Um->Prop)(E:Uk->Um->Prop),Q (.int (g i j) s.toks) {s with toks:=s.toks+1}->wpAny (model X.prog X.w) X.A (f (.int i t) (.int j u)) Q E s) :
  gz X f (Bj fun i j=>.int (g i j)):=by
 intro MC s σ H x y v u Q I rx ry h;obtain⟨i,j,rfl,rfl,q⟩:=h;obtain⟨t,rfl⟩:=rx;obtain⟨t',rfl⟩:=ry;exact rule i j t t' s _ _ ⟨.int (g i j),H,I.tok _,⟨_,rfl⟩,q⟩
def Bk{f:Uk->Uk->Sem Uk}{g:Int->Int->Bool}
  (rule:∀(i j:Int)(t u:Tok)(s:Um)(Q:Uk->Um->Prop)(E:Uk->Um->Prop),Q (.bool (g i j)) s->wpAny (model X.prog X.w) X.A (f (.int i t) (.int j u)) Q E s) :
  gz X f (Bj fun i j=>.bl (g i j)):=by
 intro MC s σ H x y v u Q I rx ry h;obtain⟨i,j,rfl,rfl,q⟩:=h;obtain⟨t,rfl⟩:=rx;obtain⟨t',rfl⟩:=ry;exact rule i j t t' s _ _ ⟨.bl (g i j),H,I,rfl,q⟩
def Jb(i j:Int):Prop:=0<j/\j<1073741824
def Em(i j:Int):Prop:=0<=j/\j<=1000000/\i.natAbs<2^64
def Rv(i j:Int):Prop:=(-(2^64)<i/\i<2^64)\/(-(2^64)<j/\j<2^64)
def Rv.ok{i j:Int}(h:Rv i j):IntMulOk i j:=by
 rcases h with⟨h1,h2⟩|⟨h1,h2⟩
 ·exact .of_left (intBits_le_64 h1 h2)
 ·exact .of_right (intBits_le_64 h1 h2)
def sQ(k:Nat):(0:Int)<=2^k:=by
 rw[two_pow_cast];exact Int.natCast_nonneg _
def bX:gz X (binaryOp .Add) (Bj fun i j=>.int (i+j)):=GQ fun _ _ _ _ _ _ _ q=>add_int q
def cU:gz X (binaryOp .Sub) (Bj fun i j=>.int (i-j)):=GQ fun _ _ _ _ _ _ _ q=>sub_int q
def gp:gz X (binaryOp .Mult) (rI Rv fun i j=>.int (i*j)):=El fun _ _ _ _ _ _ _ hc q=>mul_int q hc.ok
def oq:gz X (binaryOp .FloorDiv) (rI Jb fun i j=>.int (i / j)):=El fun i j _ _ _ _ _ hc q=>by
 have h1:(0:Int)<j:=hc.1;have h2:j<1073741824:=hc.2;exact floordiv_int zo (by rw[G_ i zo];exact q) (.inl (PyProof.noPylong_small zo))
def fg:gz X (binaryOp .Mod) (rI (fun _ j=>0<j) fun i j=>.int (i%j)):=El fun i j _ _ _ _ _ hc q=>by
 have h1:(0:Int)<j:=hc;exact mod_int' zo (by rw[Int.fmod_eq_emod_of_nonneg i zo];exact q)
def Eo:gz X (binaryOp .Pow) (rI Em fun i j=>.int (i^j.toNat)):=El fun _ _ _ _ _ _ _ hc q=>pow_int_small hc.1 hc.2.1 hc.2.2 q
def gq:gz X (binaryOp .LShift) (rI Em fun i j=>.int (i*2^j.toNat)):=El fun _ _ _ _ _ _ _ hc q=>lshift_int_small hc.1 hc.2.1 hc.2.2 q
def Ep:gz X (binaryOp .RShift) (rI (fun _ j=>0<=j) fun i j=>.int (i / 2^j.toNat)):=El fun i j _ _ _ _ _ hc q=>
 rshift_int hc (by rw[G_ i (sQ _)];exact q)
end
def Er:V->V->Bool
 |.non,.non=>true|.non,.int _=>true|.int _,.non=>true|.non,.bl _=>true|.bl _,.non=>true|.non,.str _=>true|.str _,.non=>true
 |.int _,.int _=>true|.bl _,.bl _=>true|.str _,.str _=>true|.byt _,.byt _=>true
 |.int _,.str _=>true|.str _,.int _=>true|.bl _,.str _=>true|.str _,.bl _=>true
 |_,_=>false
def Kk:R2:=fun x y H Q=>Er x y=true/\Q (.bl (decide (x=y))) H
def Kl:R2:=fun x y H Q=>Er x y=true/\Q (.bl (!decide (x=y))) H
def vx{i j:Int}:decide (V.int i=V.int j)=(i==j):=by
 rw[LJ];simp
def xV{i j:Bool}:decide (V.bl i=V.bl j)=(i==j):=by
 rw[LJ];simp
def vz{i j:Str}:decide (V.str i=V.str j)=(i==j):=by
 rw[LJ];simp
def vA{i j:Array UInt8}:decide (V.byt i=V.byt j)=(i.toList==j.toList):=by
 rw[LJ];cases i;cases j;simp
section
variable{X:Cx}{a b c:Expr}{ta tb tc:TE}{pos:Pos}
def bJ{Q:VK}{k k':Bool}(I:OR X MC σ H s)(q:Q (.bl k) H)(e:k=k'):EP X MC σ Q (.bool k') s:=by
 subst e;exact⟨.bl k,H,I,rfl,q⟩
def aX:gz X (compareOp .Eq) Kk:=by
 intro MC s σ H x y v u Q I rx ry h;obtain⟨hs,q⟩:=h;cases x with
 |non=>
  cases rx;cases y with
  |non=>cases ry;exact PySem.EqNone.eq_none_none (bJ I q (by simp))
  |bl j=>cases ry;exact PySem.EqNone.eq_none_bool (bJ I q (by simp))
  |int j=>obtain⟨t',rfl⟩:=ry;exact PySem.EqNone.eq_none_int (bJ I q (by simp))
  |str j=>obtain⟨t',rfl⟩:=ry;exact PySem.EqNone.eq_none_str (bJ I q (by simp))
  |_=>exact absurd (show false=true from hs) K5
 |bl i=>
  cases rx;cases y with
  |non=>cases ry;exact PySem.EqNone.eq_bool_none (bJ I q (by simp))
  |bl j=>cases ry;exact eq_bool (bJ I q xV)
  |str j=>obtain⟨t',rfl⟩:=ry;exact PySem.EqMixed.eq_bool_str (bJ I q (by simp))
  |_=>exact absurd (show false=true from hs) K5
 |int i=>
  obtain⟨t,rfl⟩:=rx;cases y with
  |non=>cases ry;exact PySem.EqNone.eq_int_none (bJ I q (by simp))
  |int j=>obtain⟨t',rfl⟩:=ry;exact eq_int (bJ I q vx)
  |str j=>obtain⟨t',rfl⟩:=ry;exact PySem.EqMixed.eq_int_str (bJ I q (by simp))
  |_=>exact absurd (show false=true from hs) K5
 |str i=>
  obtain⟨t,rfl⟩:=rx;cases y with
  |non=>cases ry;exact PySem.EqNone.eq_str_none (bJ I q (by simp))
  |bl j=>cases ry;exact PySem.EqMixed.eq_str_bool (bJ I q (by simp))
  |int j=>obtain⟨t',rfl⟩:=ry;exact PySem.EqMixed.eq_str_int (bJ I q (by simp))
  |str j=>obtain⟨t',rfl⟩:=ry;exact eq_str (bJ I q vz)
  |_=>exact absurd (show false=true from hs) K5
 |byt i=>
  obtain⟨t,rfl⟩:=rx;cases y with
  |byt j=>obtain⟨t',rfl⟩:=ry;exact PySem.W.eq_bytes (bJ I q vA)
  |_=>exact absurd (show false=true from hs) K5
 |_=>cases y<;>exact absurd (show false=true from hs) K5
def iP:gz X (compareOp .NotEq) Kl:=by
 intro MC s σ H x y v u Q I rx ry h;obtain⟨hs,q⟩:=h;cases x with
 |non=>
  cases rx;cases y with
  |non=>cases ry;exact PySem.EqNone.ne_none_none (bJ I q (by simp))
  |bl j=>cases ry;exact PySem.EqNone.ne_none_bool (bJ I q (by simp))
  |int j=>obtain⟨t',rfl⟩:=ry;exact PySem.EqNone.ne_none_int (bJ I q (by simp))
  |str j=>obtain⟨t',rfl⟩:=ry;exact PySem.EqNone.ne_none_str (bJ I q (by simp))
  |_=>exact absurd (show false=true from hs) K5
 |bl i=>
  cases rx;cases y with
  |non=>cases ry;exact PySem.EqNone.ne_bool_none (bJ I q (by simp))
  |bl j=>cases ry;exact ne_bool (bJ I q (d_ not xV))
  |str j=>obtain⟨t',rfl⟩:=ry;exact PySem.EqMixed.ne_bool_str (bJ I q (by simp))
  |_=>exact absurd (show false=true from hs) K5
 |int i=>
  obtain⟨t,rfl⟩:=rx;cases y with
  |non=>cases ry;exact PySem.EqNone.ne_int_none (bJ I q (by simp))
  |int j=>obtain⟨t',rfl⟩:=ry;exact ne_int (bJ I q (d_ not vx))
  |str j=>obtain⟨t',rfl⟩:=ry;exact PySem.EqMixed.ne_int_str (bJ I q (by simp))
  |_=>exact absurd (show false=true from hs) K5
 |str i=>
  obtain⟨t,rfl⟩:=rx;cases y with
  |non=>cases ry;exact PySem.EqNone.ne_str_none (bJ I q (by simp))
  |bl j=>cases ry;exact PySem.EqMixed.ne_str_bool (bJ I q (by simp))
  |int j=>obtain⟨t',rfl⟩:=ry;exact PySem.EqMixed.ne_str_int (bJ I q (by simp))
  |str j=>obtain⟨t',rfl⟩:=ry;exact ne_str (bJ I q (d_ not vz))
  |_=>exact absurd (show false=true from hs) K5
 |byt i=>
  obtain⟨t,rfl⟩:=rx;cases y with
  |byt j=>obtain⟨t',rfl⟩:=ry;exact PySem.W.ne_bytes (bJ I q (d_ not vA))
  |_=>exact absurd (show false=true from hs) K5
 |_=>cases y<;>exact absurd (show false=true from hs) K5
def eR:gz X (compareOp .Lt) (Bj fun i j=>.bl (decide (i<j))):=Bk fun _ _ _ _ _ _ _ q=>lt_int q
def iQ:gz X (compareOp .LtE) (Bj fun i j=>.bl (decide (i<=j))):=Bk fun _ _ _ _ _ _ _ q=>le_int q
def kO:gz X (compareOp .Gt) (Bj fun i j=>.bl (decide (j<i))):=Bk fun _ _ _ _ _ _ _ q=>gt_int q
def Dl:gz X (compareOp .GtE) (Bj fun i j=>.bl (decide (j<=i))):=Bk fun _ _ _ _ _ _ _ q=>ge_int q
def fX:gz X (compareOp .In) (fun x y H Q=>∃i j,x=.str i/\y=.str j/\Q (.bl (!(Builtin.Str.occurrences j i 0 j.length 1).isEmpty)) H):=by
 intro MC s σ H x y v u Q I rx ry h;obtain⟨i,j,rfl,rfl,q⟩:=h;obtain⟨t,rfl⟩:=rx;obtain⟨t',rfl⟩:=ry;exact in_str (bJ I q rfl)
def ot:gz X (compareOp .Is) (fun x y H Q=>y=.non/\Q (.bl (decide (x=.non))) H):=by
 intro MC s σ H x y v u Q I rx ry h;obtain⟨rfl,q⟩:=h;cases ry;refine is_none_gen (bJ I q ?_);cases x<;>first
  |(cases rx;rfl)
  |(obtain⟨t,rfl⟩:=rx;rfl)
def ou:gz X (compareOp .NotIn) (fun x y H Q=>∃i j,x=.str i/\y=.str j/\Q (.bl (!(!(Builtin.Str.occurrences j i 0 j.length 1).isEmpty))) H):=by
 intro MC s σ H x y v u Q I rx ry h;obtain⟨i,j,rfl,rfl,q⟩:=h;obtain⟨t,rfl⟩:=rx;obtain⟨t',rfl⟩:=ry;exact notIn_str (bJ I q rfl)
variable{op:CmpOp}
def sR(b:Expr)(h:op≠.In:=by decide)(h2:op≠.NotIn:=by decide):behindInMarks op b=false:=by
 have e1:(op==CmpOp.In)=false:=by cases op<;>first|rfl|exact absurd rfl h
 have e2:(op==CmpOp.NotIn)=false:=by cases op<;>first|rfl|exact absurd rfl h2
 cases b<;>simp[behindInMarks,e1,e2]
def cb{r:R2}(ho:gz X (compareOp op) r)(ha:PE X a ta)(hb:PE X b tb)(hm:behindInMarks op b=false:=by first|exact sR _|rfl):PE X (.Compare a [op] [b] pos) (Iz r ta tb):=by
 refine⟨?_⟩;intro MC s σ H Q I h;exact wpAny_Compare1 (Ek ha hb I h fun v u s2 x y H2 I2 rx ry q=>ho MC s2 σ H2 x y v u Q I2 rx ry q) hm
inductive xW(Q:Bool->Hp->Prop)(x:V)(H':Hp):Prop
 |mk(k:_):x=.bl k->Q k H'->xW Q x H'
def Dm(t:TE):TT:=fun σ H Q=>t σ H fun x H'=>xW Q x H'
def aq{r:R2}(ho:gz X (compareOp op) r)(ha:PE X a ta)(hb:PE X b tb)(hm:behindInMarks op b=false:=by first|exact sR _|rfl):PT X (.Compare a [op] [b] pos) (Dm (Iz r ta tb)):=by
 refine⟨?_⟩;intro MC s σ H Q I h;refine wpAny_isTrue_Compare1 (cg (ha MC s σ H _ I h) fun v s1⟨x,H1,I1,r1,q1⟩=>cg (hb MC s1 σ H1 _ I1 q1) fun u s2⟨y,H2,I2,r2,q2⟩=>
  cg (ho MC s2 σ H2 x y v u _ I2 r1 r2 q2) fun c s3⟨z,H3,I3,r3,k,e,q3⟩=>?_) hm
 subst e;cases r3;exact n_ ⟨H3,I3,q3⟩
inductive vB(r':R2)(tc:TE)(σ:St)(Q:VK)(y:V)(z:V)(H3:Hp):Prop
 |mk(k:_):z=.bl k->(if k=true then tc σ H3 fun w' H4=>r' y w' H4 Q else Q (.bl false) H3)->vB r' tc σ Q y z H3
def xX(r r':R2)(ta tb tc:TE):TE:=fun σ H Q=>ta σ H fun x H1=>tb σ H1 fun y H2=>r x y H2 fun z H3=>vB r' tc σ Q y z H3
def kP{op XZ:CmpOp}{r r':R2}(ho:gz X (compareOp op) r)(Wr:gz X (compareOp XZ) r')(ha:PE X a ta)(hb:PE X b tb)(hc:PE X c tc)
  (hm:lastMarks [op,XZ] [b,c]=false:=by with_unfolding_all rfl):PE X (.Compare a [op,XZ] [b,c] pos) (xX r r' ta tb tc):=by
 refine⟨?_⟩;intro MC s σ H Q I h;refine Compare_chain (cg (ha MC s σ H _ I h) fun v s1⟨x,H1,I1,r1,q1⟩=>chain_link (cg (hb MC s1 σ H1 _ I1 q1) fun u s2⟨y,H2,I2,r2,q2⟩=>
  cg (ho MC s2 σ H2 x y v u _ I2 r1 r2 q2) fun d s3⟨z,H3,I3,r3,k,e,q3⟩=>?_)) hm
 subst e;cases r3;refine n_ ?_;cases k with
 |false=>exact ite_ff ⟨.bl false,H3,I3,rfl,q3⟩
 |true=>exact ite_tt (chain_last (cg (hc MC s3 σ H3 _ I3 q3) fun w' s4⟨z',H4,I4,r4,q4⟩=>Wr MC s4 σ H4 y z' u w' Q I4 r2 r4 q4))
def qN{op XZ:CmpOp}{r r':R2}(ho:gz X (compareOp op) r)(Wr:gz X (compareOp XZ) r')(ha:PE X a ta)(hb:PE X b tb)(hc:PE X c tc)
  (hm:lastMarks [op,XZ] [b,c]=false:=by with_unfolding_all rfl):PT X (.Compare a [op,XZ] [b,c] pos) (Dm (xX r r' ta tb tc)):=by
 refine⟨?_⟩;intro MC s σ H Q I h;refine isTrue_chain (cg (ha MC s σ H _ I h) fun v s1⟨x,H1,I1,r1,q1⟩=>test_link (cg (hb MC s1 σ H1 _ I1 q1) fun u s2⟨y,H2,I2,r2,q2⟩=>
  cg (ho MC s2 σ H2 x y v u _ I2 r1 r2 q2) fun d s3⟨z,H3,I3,r3,k,e,q3⟩=>?_)) hm
 subst e;cases r3;refine n_ ?_;cases k with
 |false=>
  obtain⟨k',e',q'⟩:=q3;cases e';exact ite_ff ⟨H3,I3,q'⟩
 |true=>
  refine ite_tt (test_last (cg (hc MC s3 σ H3 _ I3 q3) fun w' s4⟨z',H4,I4,r4,q4⟩=>cg (Wr MC s4 σ H4 y z' u w' _ I4 r2 r4 q4) fun d' s5 hZZ=>?_));obtain⟨z2,H5,I5,r5,k2,e2,q5⟩:=hZZ;subst e2;cases r5;exact n_ ⟨H5,I5,q5⟩
def js:(sizeLine:Nat)<2^63:=by rw[sizeLine_eq];decide
def aR:gz X (binaryOp .Add) (fun x y H Q=>∃i j,x=.str i/\y=.str j/\i.length+j.length<=sizeLine/\Q (.str (i++j)) H):=by
 intro MC s σ H x y v u Q I rx ry h;obtain⟨i,j,rfl,rfl,hz,q⟩:=h;obtain⟨t,rfl⟩:=rx;obtain⟨t',rfl⟩:=ry;exact add_str (fun t' tk=>⟨.str (i++j),H,I.tok _,⟨_,rfl⟩,q⟩) hz
def il(r:OV [x] us):∃u,us=[u]/\OW x u:=by
 cases r with
 |cons r1 r2=>cases r2;exact⟨_,rfl,r1⟩
def Do(r:OV [x,y] us):∃u w',us=[u,w']/\OW x u/\OW y w':=by
 cases r with
 |cons r1 r2=>
  cases r2 with
  |cons r3 r4=>cases r4;exact⟨_,_,rfl,r1,r3⟩
def gT(hc:X.calm=true):ff X (.builtin "max") (fun xs H Q=>∃i j,xs=[.int i,.int j]/\Q (.int (if j>i then j else i)) H):=by
 intro MC s σ H xs us Q I r h;obtain⟨i,j,rfl,q⟩:=h;obtain⟨u,w',rfl,⟨t,rfl⟩,⟨t',rfl⟩⟩:=Do r;refine max_two_ints (I.ok.hd hc) fun h' tk k=>⟨_,H,I.kept k,?_,q⟩;by_cases hj:j>i
 ·rw[f_ hj,f_ hj];exact⟨_,rfl⟩
 ·rw[e_ hj,e_ hj];exact⟨_,rfl⟩
def ni(hc:X.calm=true):ff X (.builtin "min") (fun xs H Q=>∃i j,xs=[.int i,.int j]/\Q (.int (if j<i then j else i)) H):=by
 intro MC s σ H xs us Q I r h;obtain⟨i,j,rfl,q⟩:=h;obtain⟨u,w',rfl,⟨t,rfl⟩,⟨t',rfl⟩⟩:=Do r;refine min_two_ints (I.ok.hd hc) fun h' tk k=>⟨_,H,I.kept k,?_,q⟩;by_cases hj:j<i
 ·rw[f_ hj,f_ hj];exact⟨_,rfl⟩
 ·rw[e_ hj,e_ hj];exact⟨_,rfl⟩
def eZ:ff X (.type "int") (fun xs H Q=>(∃i,xs=[.int i]/\Q (.int i) H)\/∃k,xs=[.bl k]/\Q (.int (if k then 1 else 0)) H):=by
 intro MC s σ H xs us Q I r h;rcases h with⟨i,rfl,q⟩|⟨k,rfl,q⟩
 ·obtain⟨u,rfl,t,rfl⟩:=il r;exact call_int_int ⟨.int i,H,I,⟨_,rfl⟩,q⟩
 ·obtain⟨u,rfl,r1⟩:=il r;cases r1;exact call_int_bool ⟨.int (if k then 1 else 0),H,I.tok _,⟨_,rfl⟩,q⟩
def eU:ff X (.type "str") (fun xs H Q=>∃i,xs=[.int i]/\i.natAbs.log2<1920/\Q (.str (toString i)) H):=by
 intro MC s σ H xs us Q I r h;obtain⟨i,rfl,hz,q⟩:=h;obtain⟨u,rfl,t,rfl⟩:=il r;exact PySem.P.str_of_int hz ⟨.str _,H,I.tok _,⟨_,rfl⟩,q⟩
end
structure QN(h:Heap)(x dx C:Ul)(mA:Str->Option Uk):Prop where
 obj:h.get? x=some (PySem.W.instObj C dx)
 ns:h.Ns1 dx mA
 ne:dx≠x
variable{mA:Str->Option Uk}{dx:Ul}
def wM(n:h.Ns1 dx mA):∃od,h.get? dx=some od/\∀name,PySem.W.lookIn name od=some (mA name):=by
 obtain⟨o,es,ep,ho,hd,hk,_,hm⟩:=n;refine⟨o,ho,fun name=>?_⟩;have e:=hm name;unfold nsFind findBy at e;rw[<-Array.find?_toList]at e;unfold PySem.W.lookIn;rw[hd];dsimp only;split
 ·rename_i y q;rw[q]at e;exact d_ some e
 ·rename_i q;rw[q]at e;have a:es.toList.any (·.refKey)=false:=by
   rw[List.any_eq_false];intro y hy;obtain⟨z,t,hkey⟩:=hk y (Array.mem_toList_iff.mp hy);simp[DictEntry.refKey,hkey]
  have a':¬es.toList.any (·.refKey)=true:=by rw[a];exact K5
  rw[e_ a'];exact d_ some e
def QN.look{x dx C:Ul}(I:QN h x dx C mA):∃od,PySem.W.InstAt h x (PySem.W.instObj C dx) C (some od)/\∀name,PySem.W.lookIn name od=some (mA name):=
 let⟨od,ho,hl⟩:=wM I.ns
 ⟨od,⟨I.obj,rfl,rfl,ho⟩,hl⟩
section
variable{prog:Uo}{w:Up}{A:Uq}{E:Uk->Um->Prop}{s:Um}{K:ZF}{x dx C f:Ul}{mA:Str->Option Uk}{name:Str}{v:Uk}
def Bm{expr:Bool}{Q:Uk->Um->Prop}(X:K.In s.heap)(I:QN s.heap x dx C mA)(hg:PySem.W.plainGet K C name=true)(hh:PySem.W.hasDictIn K C=true)
  (ha:PySem.W.findIn K (.ref C) name=some none) (hv:mA name=some v) (hv':PySem.W.handedIn v=true) (h:Q v {s with toks:=s.toks+1}) :
  wpAny (model prog w) A (getAttr (.ref x) name expr) Q E s:=by
 obtain⟨od,J,hl⟩:=I.look;exact PySem.W.get_value X J (RG hg).1 (PySem.W.findObj_own hh ha rfl (by rw[hl,hv])) hv' h
def xY{pl:Sem Bool}{Q:Uk×List Uk->Um->Prop}(X:K.In s.heap)(I:QN s.heap x dx C mA)(hg:PySem.W.plainGet K C name=true)
  (hf:PySem.W.findIn K (.ref C) name=some (some (.ref f))) (ht:PySem.W.isFn K (.ref f)=true) (hv:mA name=none) (h:Q (.ref f,[.ref x]) s) :
  wpAny (model prog w) A (getMethod (.ref x) name pl) Q E s:=by
 obtain⟨od,J,hl⟩:=I.look;exact PySem.W.method_fn X J (RG hg).1 (RG hg).2 hf (beq_iff_eq.mp ht) (by show(PySem.W.lookIn name od).map (·.isSome)=some false;rw[hl,hv];rfl) h
def Bn{ns:Us}{Q:Unit->Um->Prop}(X:K.In s.heap)(I:QN s.heap x dx C mA)
  (hs:PySem.W.findIn K (.ref C) "__setattr__"=some (some (.builtin "object.__setattr__"))) (hp:PySem.W.plainOver K C=true) (ht:PySem.W.takerIn K C name=some none) (hh:PySem.W.hasDictIn K C=true)
  (hw:PySem.Within mA ns) (hsz:ns.length<=sizeLine)
  (h:∀h',QN h' x dx C (fun y=>if y=name then some v else mA y)->Heap.SameBut dx s.heap h'->Q () {s with heap:=h',toks:=s.toks+2}) :
  wpAny (model prog w) A (setAttr (.ref x) name v) Q E s:=by
 obtain⟨od,J,hl⟩:=I.look;refine PySem.W.set_plain X J hs (PySem.W.osa_open (s:={s with toks:=s.toks+1}) (r:=none) X J hp ht fun b=>?_);obtain⟨cd,hc,ZO⟩:=PySem.W.any_some hh;have hx:s.heap.get? x=some ⟨.ref C,some dx,.plain,#[]⟩:=I.obj;refine c_ (i_ (c_ (c_ (wpAny_loadPart hx (c_ (PySem.W.Looks.here (s:={s with toks:=s.toks+1}) (PySem.W.looks_clsIn X hc) ?_))))));rw[ZO];refine i_ (a:=some dx) (c_ (i_ (c_ ?_)));refine wpAny_nsSet1 (s:={s with toks:=s.toks+1}) I.ns fun h' X9 X6=>?_;obtain⟨oD,esD,epD,hoD,hdD,hcD⟩:=X9.count (PySem.Within.cons name v hw);refine c_ (wpAny_lookBehind hoD (by rw[hdD];exact pastItsLine_dict (Ll hcD (by rw[KC];lia))) ?_);exact i_ (h _ ⟨(X6.2 _ (Pi I.ne)).trans I.obj,X9,I.ne⟩ X6)
def xZ{R:Result->Um->Prop}{vs:List Uk}{kw:List (Str×Uk)}(X:K.In s.heap)(hm:PySem.W.makesIn K C=true)
  (hi:PySem.W.findIn K (.ref C) "__init__"=some (some (.ref f))) (hf:PySem.W.typeIn K (.ref f)=some (.type "function"))
  (h:codeAny (model prog w) (A.under (.builtin "type.__call__" ⟨.ref C::vs,kw⟩)) (.call (.ref f) ⟨.ref (s.heap.objs.size+1)::vs,kw⟩) (PySem.W.InitBack (s.heap.objs.size+1) R)
   {s with heap:=(s.heap.push PySem.W.emptyDict).push (PySem.W.instObj C s.heap.objs.size)}) :
  codeAny (model prog w) A (.call (.ref C) ⟨vs,kw⟩) R s:=by
 obtain⟨hh,g,d,t,os⟩:=s;exact PySem.W.make_core (PySem.W.makes_of X hm) (PySem.W.looks_findIn X hi) (fun self=>PySem.W.bind_fn X self hf) (.inl rfl) h
end
def aV(f:Str)(v:V):List (Str×V)->List (Str×V)
 |[]=>[(f,v)]
 |(g,x)::r=>if g=f then(g,v)::r else(g,x)::aV f v r
def jZ(f g:Str)(v:V):∀fs:List (Str×V),(aV f v fs).lookup g=if g=f then some v else fs.lookup g
 |[]=>by
  show List.lookup g [(f,v)]=_;by_cases h:g=f
  ·have hb:(g==f)=true:=beq_iff_eq.mpr h;simp only[List.lookup,hb,f_ h]
  ·have hb:(g==f)=false:=beq_eq_false_iff_ne.mpr h;simp only[List.lookup,hb,e_ h]
 |(k,x)::r=>by
  have ih:=jZ f g v r;rw[show aV f v ((k,x)::r)=(if k=f then(k,v)::r else(k,x)::aV f v r)from rfl];by_cases hk:k=f
  ·rw[f_ hk];by_cases h:g=k
   ·have hb:(g==k)=true:=beq_iff_eq.mpr h;simp only[List.lookup,hb,f_ (h.trans hk)]
   ·have hb:(g==k)=false:=beq_eq_false_iff_ne.mpr h;simp only[List.lookup,hb,e_ (fun e:g=f=>h (e.trans hk.symm))]
  ·rw[e_ hk];by_cases h:g=k
   ·have hb:(g==k)=true:=beq_iff_eq.mpr h;simp only[List.lookup,hb,e_ (fun e:g=f=>hk (h.symm.trans e))]
   ·have hb:(g==k)=false:=beq_eq_false_iff_ne.mpr h;simp only[List.lookup,hb];exact ih
def jt(f:Str)(v:V):∀fs:List (Str×V),f∈(aV f v fs).map (·.1)/\∀g,g∈fs.map (·.1)->g∈(aV f v fs).map (·.1)
 |[]=>⟨by simp[aV],fun g h=>by simp at h⟩
 |(k,x)::r=>by
  obtain⟨i1,i2⟩:=jt f v r;rw[show aV f v ((k,x)::r)=(if k=f then(k,v)::r else(k,x)::aV f v r)from rfl];by_cases hk:k=f
  ·rw[f_ hk];subst hk;exact⟨by simp,fun g h=>by simpa using h⟩
  ·rw[e_ hk];refine⟨?_,fun g h=>?_⟩
   ·rw[K2];exact KM _ i1
   ·rw[K2]at h⊢;rcases KH.mp h with e|e
    ·exact KH.mpr (.inl e)
    ·exact KM _ (i2 g e)
def j6(f:Str)(v:V):∀fs:List (Str×V),(aV f v fs).length<=fs.length+1
 |[]=>by simp[aV]
 |(k,x)::r=>by
  have ih:=j6 f v r;rw[show aV f v ((k,x)::r)=(if k=f then(k,v)::r else(k,x)::aV f v r)from rfl];by_cases hk:k=f
  ·rw[f_ hk,KC,KC];lia
  ·rw[e_ hk,KC,KC];lia
variable{v:V}
def Pu.some_of{o:Option Uk}(r:Pu (some v) o):∃u,o=some u/\OW v u:=by
 cases o with
 |none=>exact(show False from r).elim
 |some u=>exact⟨u,rfl,r⟩
def Pu.none_of{o:Option Uk}(r:Pu none o):o=none:=by
 cases o with
 |none=>rfl
 |some u=>exact(show False from r).elim
def wN(r:OW v u):PySem.W.handedIn u=true:=by
 cases v with
 |non=>cases(show u=Value.none from r);rfl
 |bl b=>cases(show u=Value.bool b from r);rfl
 |int i=>obtain⟨t,e⟩:=(show ∃t,u=Value.int i t from r);cases e;rfl
 |str x=>obtain⟨t,e⟩:=(show ∃t,u=Value.str x t from r);cases e;rfl
 |byt b=>obtain⟨t,e⟩:=(show ∃t,u=Value.bytes b t from r);cases e;rfl
 |flt b=>obtain⟨t,e⟩:=(show ∃t,u=Value.float b t from r);cases e;rfl
 |ref a=>cases(show u=Value.ref a from r);rfl
 |ty n=>cases(show u=Value.type n from r);rfl
section
variable{P:Uo}{w:Up}{H H':Hp}{h h':Heap}{a C dx:Ul}{fs XI:List (Str×V)}
def kd(hok:PJ P w H h)(e:H a=some (.ins C dx fs)):∃mA,QN h a dx C mA/\(∀f,Pu (fs.lookup f) (mA f))/\PySem.Within mA (fs.map (·.1))/\fs.length<=1000/\H dx=some (.own a):=by
 obtain⟨d,z,ne,ob,mA,n,r,q⟩:=(show O2 P w H h a (.ins C dx fs)from hok a _ e);exact⟨mA,⟨ob,n,ne⟩,r,q,z,d⟩
end
structure QH(K:ZF)(C:Ul):Prop where
 pg:PySem.W.plainGet K C Str.empty=true
 hd:PySem.W.hasDictIn K C=true
 po:PySem.W.plainOver K C=true
 sa:PySem.W.findIn K (.ref C) "__setattr__"=some (some (.builtin "object.__setattr__"))
variable{C:Ul}
def QH.get(c:QH K C)(f:Str):PySem.W.plainGet K C f=true:=c.pg
def O1(K:ZF)(C:Ul)(f:Str):Prop:=PySem.W.findIn K (.ref C) f=some none
variable{f:Str}
def O1.taker(n:O1 K C f):PySem.W.takerIn K C f=some none:=by
 unfold PySem.W.takerIn;rw[show PySem.W.findIn K (.ref C) f=some none from n];rfl
structure Bo(K:ZF)(C:Ul)(m:Str)(f:Ul):Prop where
 at_:PySem.W.findIn K (.ref C) m=some (some (.ref f))
 fn:PySem.W.isFn K (.ref f)=true
 kp:PySem.W.keepIn K (.ref f)=true
section
variable{X:Cx}{MC:List (Ul×Obj)}{σ:St}{H:Hp}{s:Um}{a C dx:Ul}{fs:List (Str×V)}{f:Str}{v:V}{A:Uq}{E:Uk->Um->Prop}
def kQ{b:Bool}{Q:Uk->Um->Prop}(I:OR X MC σ H s)(e:H a=some (.ins C dx fs))(c:QH X.K C)(n:O1 X.K C f)(l:fs.lookup f=some v)
  (h:∀u s',OR X MC σ H s'->OW v u->Q u s'):wpAny (model X.prog X.w) A (getAttr (.ref a) f b) Q E s:=by
 obtain⟨mA,O,r,_,_,_⟩:=kd I.hok e;obtain⟨u,hu,ru⟩:=Pu.some_of (v:=v) (o:=mA f) (by rw[<-l];exact r f);exact Bm I.kIn O (c.get f) c.hd n hu (wN ru) (h u _ (I.tok _) ru)
def kR{m:Str}{g:Ul}{pl:Sem Bool}{Q:Uk×List Uk->Um->Prop}(I:OR X MC σ H s)(e:H a=some (.ins C dx fs))(c:QH X.K C)(k:Bo X.K C m g)(l:fs.lookup m=none)
  (h:Q (.ref g,[.ref a]) s):wpAny (model X.prog X.w) A (getMethod (.ref a) m pl) Q E s:=by
 obtain⟨mA,O,r,_,_,_⟩:=kd I.hok e;have hn:mA m=none:=Pu.none_of (by rw[<-l];exact r m);exact xY I.kIn O (c.get m) k.at_ k.fn hn h
def kT{Q:Unit->Um->Prop}(I:OR X MC σ H s)(e:H a=some (.ins C dx fs))(c:QH X.K C)(n:O1 X.K C f)(hl:fs.length<1000)(ry:OW y u)
  (h:∀s',OR X MC σ (aM H a (.ins C dx (aV f y fs))) s'->Q () s'):wpAny (model X.prog X.w) A (setAttr (.ref a) f u) Q E s:=by
 obtain⟨mA,O,r,wi,_,ho⟩:=kd I.hok e;have hz:(fs.map (·.1)).length<=sizeLine:=by rw[Ky,sizeLine_eq];lia
 refine Bn I.kIn O c.sa c.po n.taker c.hd wi hz fun h' O' sb=>h _ ?_;have hd:∃o,h'.get? dx=some o:=let⟨o,_,_,e',_⟩:=O'.ns;⟨o,e'⟩;refine I.write (x:=a) (e:=dx) (by rw[e];exact True.intro) (.inr ho) (fun b q hb z=>(sb.2 b hb).trans z) hd ?_;refine⟨by rw[au O.ne];exact ho,?_,O.ne,O'.obj,_,O'.ns,fun g=>?_,fun g hg=>?_⟩
 ·have:=j6 f y fs;lia
 ·show Pu ((aV f y fs).lookup g) (if g=f then some u else mA g);rw[jZ];by_cases q:g=f
  ·rw[f_ q,f_ q];exact ry
  ·rw[e_ q,e_ q];exact r g
 ·by_cases q:g=f
  ·rw[q];exact(jt f y fs).1
  ·refine(jt f y fs).2 g (wi g fun z=>hg ?_);show(if g=f then some u else mA g)=none;rw[e_ q];exact z
def OR.made(I:OR X MC σ H s):OR X MC σ (aM (aM H s.heap.objs.size (.own (s.heap.objs.size+1))) (s.heap.objs.size+1) (.ins C s.heap.objs.size []))
  {s with heap:=(s.heap.push PySem.W.emptyDict).push (PySem.W.instObj C s.heap.objs.size)}:=by
 have e1:(s.heap.push PySem.W.emptyDict).get? s.heap.objs.size=some PySem.W.emptyDict:=K9 s.heap rfl;have e2:((s.heap.push PySem.W.emptyDict).push (PySem.W.instObj C s.heap.objs.size)).get? (s.heap.objs.size+1)=some (PySem.W.instObj C s.heap.objs.size):=by
  have:=K9 (s.heap.push PySem.W.emptyDict) (o:=PySem.W.instObj C s.heap.objs.size) rfl
  rwa [L9]at this
 have e3:(s.heap.push PySem.W.emptyDict).Ns s.heap.objs.size (fun _=>none):=⟨PySem.W.emptyDict,#[],_,e1,rfl,(fun e he=>absurd he (by simp)),fun _=>rfl⟩;have I1:=I.laid (a:=s.heap.objs.size) (o:=.own (s.heap.objs.size+1)) (h':=s.heap.push PySem.W.emptyDict) (t':=s.toks) (fun b u q=>KE _ q) (KO _) ⟨_,e1⟩;refine I1.laid (a:=s.heap.objs.size+1) (o:=.ins C s.heap.objs.size []) (t':=s.toks) (fun b u q=>KE _ q) (Nat.le_of_eq (L9 _ _)) ?_;have ne:s.heap.objs.size≠s.heap.objs.size+1:=Lk (Mn _);refine⟨by rw[au ne,ae],Lh _,ne,e2,fun _=>none,(Heap.Ns1.of_empty e3).at fun o q=>KE _ q,fun _=>True.intro,fun y hy=>absurd rfl hy⟩
def Bp{prog:Uo}{w:Up}{env:Env}{pos:Pos}{s:Um}{Q:Uk->Um->Prop}(hb:attributeBase e f env (eval e env)=eval e env)
  (h:wpAny (model prog w) A (eval e env) (fun o s₁=>wpAny (model prog w) A (getAttr o f true) Q E s₁) E s):wpAny (model prog w) A (eval (.Attribute e f pos) env) Q E s:=
 Attribute_any_ h (by rw[arm_eval_Attribute,hb])
end
inductive Dp(K:ZF)(f:Str)(Q:VK)(x:V)(H1:Hp):Prop
 |mk(a C dx fs v:_):x=.ref a->H1 a=some (.ins C dx fs)->QH K C->O1 K C f->fs.lookup f=some v->Q v H1->Dp K f Q x H1
def Jc(K:ZF)(ta:TE)(f:Str):TE:=fun σ H Q=>ta σ H fun x H1=>Dp K f Q x H1
inductive Dq(K:ZF)(f:Str)(D:gD)(σ:St)(y:V)(x:V)(H2:Hp):Prop
 |mk(a C dx fs:_):x=.ref a->H2 a=some (.ins C dx fs)->QH K C->O1 K C f->fs.length<1000->D.nx σ (aM H2 a (.ins C dx (aV f y fs)))->Dq K f D σ y x H2
def Jd(K:ZF)(ta tv:TE)(f:Str):TS:=fun D σ H=>tv σ H fun y H1=>ta σ H1 fun x H2=>Dq K f D σ y x H2
def GR(X:Cx)(op:Operator)(rd:V->V->Hp->VK->Prop):Prop:=
 ∀(MC:List (Ul×Obj))(s:Um)(σ:St)(H:Hp)(x y:V)(u v:Uk)(Q:VK),OR X MC σ H s->OW x u->OW y v->rd x y H Q->wpAny (model X.prog X.w) X.A (inplaceOp op u v) (EP X MC σ Q) X.xe s
inductive qO(K:ZF)(tv:TE)(rd:V->V->Hp->VK->Prop)(f:Str)(D:gD)(σ:St)(x:V)(H1:Hp):Prop
 |mk(a C dx fs v:_):x=.ref a->H1 a=some (.ins C dx fs)->QH K C->O1 K C f->fs.lookup f=some v->(tv σ H1 fun y H2=>rd v y H2 fun z H3=>∃dx' XI,H3 a=some (.ins C dx' XI)/\XI.length<1000/\D.nx σ (aM H3 a (.ins C dx' (aV f z XI))))->qO K tv rd f D σ x H1
def Bq(K:ZF)(ta tv:TE)(rd:V->V->Hp->VK->Prop)(f:Str):TS:=fun D σ H=>ta σ H fun x H1=>qO K tv rd f D σ x H1
section
variable{X:Cx}{o e value:Expr}{f:Str}{pos UH Z_:Pos}{ta tv:TE}
def bB(he:PE X e ta)(hb:attributeBase e f X.env (eval e X.env)=eval e X.env):PE X (.Attribute e f pos) (Jc X.K ta f):=by
 refine⟨?_⟩;intro MC s σ H Q I h;refine Bp hb (cg (he MC s σ H _ I h) fun u s1 hZZ=>?_);obtain⟨x,H1,I1,rx,a,C,dx,fs,v,ex,ea,c,n,l,q⟩:=hZZ;subst ex;obtain rfl:u=Value.ref a:=rx;exact kQ I1 ea c n l fun u' s2 I2 ru=>⟨v,H1,I2,ru,q⟩
def cC(ha:PE X o ta)(hv:PE X value tv)(hs:swapsWith value (some (.Attribute o f UH)) pos.line X.env=pure false):PS X (.Assign [.Attribute o f UH] value pos) (Jd X.K ta tv f):=by
 refine⟨?_⟩;intro MC s σ H D I h;refine plainObj_wpAny_Assign_Attribute (cg (hv MC s σ H _ I h) fun u s1⟨y,H1,I1,ry,q⟩=>cg (ha MC s1 σ H1 _ I1 q) fun ov s2 hZZ=>?_) hs;obtain⟨x,H2,I2,rx,a,C,dx,fs,ex,ea,c,n,l,q2⟩:=hZZ;subst ex;obtain rfl:ov=Value.ref a:=rx;exact kT I2 ea c n l ry fun s3 I3=>⟨σ,_,I3,q2⟩
def nj{op:Operator}{rd:V->V->Hp->VK->Prop}(ha:PE X o ta)(hv:PE X value tv)(Zu:GR X op rd):PS X (.AugAssign (.Attribute o f Z_) op value pos) (Bq X.K ta tv rd f):=by
 refine⟨?_⟩;intro MC s σ H D I h;refine wpAny_AugAssign_AttributeAny (cg (ha MC s σ H _ I h) fun ov s1 hZZ=>?_);obtain⟨x,H1,I1,rx,a,C,dx,fs,v,ex,ea,c,n,l,q⟩:=hZZ;subst ex;obtain rfl:ov=Value.ref a:=rx;refine kQ I1 ea c n l fun u s2 I2 ru=>cg (hv MC s2 σ H1 _ I2 q) fun w3 s3⟨y,H2,I3,ry,q3⟩=>cg (Zu MC s3 σ H2 v y u w3 _ I3 ru ry q3) fun w4 s4 hZZ=>?_;obtain⟨z,H3,I4,rz,dx',XI,ea',l',q4⟩:=hZZ;exact kT I4 ea' c n l' rz fun s5 I5=>⟨σ,_,I5,q4⟩
inductive GS(x:V)(y:V)(H:Hp)(Q:VK):Prop
 |mk(i j:_):x=.int i->y=.int j->Q (.int (i+j)) H->GS x y H Q
def x6:GR X .Add GS:=by
 rintro MC s σ H x y u v Q I rx ry ⟨i,j,rfl,rfl,q⟩;obtain⟨t,rfl⟩:=(show ∃t,u=Value.int i t from rx);obtain⟨t',rfl⟩:=(show ∃t',v=Value.int j t' from ry);exact PyProof.Rows.iadd_int ⟨.int (i+j),H,I.tok _,⟨_,rfl⟩,q⟩
end
section
variable{X:Cx}{MC:List (Ul×Obj)}{σ:St}{H:Hp}{s:Um}{A:Uq}{E:Uk->Um->Prop}{Q:Uk->Um->Prop}{c:Uk}{b:Bool}
inductive ju(K:ZF)(H:Hp):V->Uk->Prop where
 |non:ju K H .non (.type "NoneType")
 |bl (x:Bool):ju K H (.bl x) (.type "bool")
 |int (i:Int):ju K H (.int i) (.type "int")
 |str (x:Str):ju K H (.str x) (.type "str")
 |flt (x:UInt64):ju K H (.flt x) (.type "float")
 |lst {a:Ul} {xs:Uv} (e:H a=some (.lst xs)):ju K H (.ref a) (.type "list")
 |frz {a:Ul} {o:Obj} {xs:Uv} (e:H a=some (.frz o (.lst xs))):ju K H (.ref a) (.type "list")
 |tup {a:Ul} {xs:Uv} (e:H a=some (.tup xs)):ju K H (.ref a) (.type "tuple")
 |dK {a:Ul} {kvs:List (cQ×V)} (e:H a=some (.dK kvs)):ju K H (.ref a) (.type "dict")
 |dT {a:Ul} {kvs:List (List cQ×V)} (e:H a=some (.dT kvs)):ju K H (.ref a) (.type "dict")
 |ins {a C dx:Ul} {fs:List (Str×V)} (e:H a=some (.ins C dx fs)) (cl:QH K C) (ha:PySem.W.findIn K (.ref C) "__class__"=some (some (.builtin "object.__class__")))
   (hn:PySem.W.specialIn K (.builtin "object.__class__") "__get__"=some (some (.builtin "getset_descriptor.__get__"))) (Wg:PySem.W.takesIn K (.builtin "object.__class__")=some true)
   (hm:PySem.W.mroIn K C (.type "object")=some true):ju K H (.ref a) (.ref C)
def wO{u t:Uk}(I:OR X MC σ H s)(rx:OW x u)(ty:ju X.K H x t)(e:PySem.W.kitOne X.K t c=some b)(h:∀tk,Q (.bool b) {s with toks:=tk}):
  wpAny (model X.prog X.w) A (call (.builtin "isinstance") [u,c]) Q E s:=by
 cases ty with
 |non=>cases(show u=Value.none from rx);exact LK PySem.W.kitx_none I.kIn True.intro e (fun z=>nomatch z) h
 |bl y=>cases(show u=Value.bool y from rx);exact LK PySem.W.kitx_bool I.kIn True.intro e (fun z=>nomatch z) h
 |int i=>obtain⟨t,q⟩:=(show ∃t,u=Value.int i t from rx);cases q;exact LK PySem.W.kitx_int I.kIn True.intro e (fun z=>nomatch z) h
 |str y=>obtain⟨t,q⟩:=(show ∃t,u=Value.str y t from rx);cases q;exact LK PySem.W.kitx_str I.kIn True.intro e (fun z=>nomatch z) h
 |flt y=>obtain⟨t,q⟩:=(show ∃t,u=Value.float y t from rx);cases q;exact LK PySem.W.kitx_float I.kIn True.intro e (fun z=>nomatch z) h
 |@lst a xs ea=>
  cases(show u=Value.ref a from rx);obtain⟨_,_,n,_,h1⟩:=(show O2 X.prog X.w H s.heap a (.lst xs)from I.hok a _ ea);exact LK PySem.W.kitx_list I.kIn ⟨_,h1,rfl⟩ e (fun z=>nomatch z) h
 |@frz a ob xs ea=>
  cases(show u=Value.ref a from rx);obtain⟨_,_,_,n,_,h1⟩:=(show O2 X.prog X.w H s.heap a (.frz ob (.lst xs))from I.hok a _ ea);exact LK PySem.W.kitx_list I.kIn ⟨_,h1,rfl⟩ e (fun z=>nomatch z) h
 |@tup a xs ea=>
  cases(show u=Value.ref a from rx);obtain⟨_,_,_,p⟩:=(show O2 X.prog X.w H s.heap a (.tup xs)from I.hok a _ ea);obtain⟨o,h1,h2,_⟩:=p;exact LK PySem.W.kitx_tuple I.kIn ⟨o,h1,(P_ h2).1⟩ e (fun z=>nomatch z) h
 |@dK a kvs ea=>
  cases(show u=Value.ref a from rx);obtain⟨_,_,vs,_,p⟩:=(show O2 X.prog X.w H s.heap a (.dK kvs)from I.hok a _ ea);obtain⟨o,es,ep,h1,h2,_⟩:=p;exact LK PySem.W.kitx_dict I.kIn ⟨o,h1,h2.1⟩ e (fun z=>nomatch z) h
 |@dT a kvs ea=>
  cases(show u=Value.ref a from rx);obtain⟨_,_,xs,_,o,es,ep,h1,h2,_⟩:=(show O2 X.prog X.w H s.heap a (.dT kvs)from I.hok a _ ea);exact LK PySem.W.kitx_dict I.kIn ⟨o,h1,h2.1⟩ e (fun z=>nomatch z) h
 |@ins a C dx fs ea cl ha hn Wg hm=>
  cases(show u=Value.ref a from rx);obtain⟨mA,O,_⟩:=kd I.hok ea;obtain⟨od,J,_⟩:=O.look;exact LK (PySem.W.kitx_own (cl.get _) cl.hd ha hn Wg hm) I.kIn J e (fun z=>nomatch z) h
end
structure OU(k:Nat)(A:Uq):Prop where
 hd:A.handled=none
 dp:A.depth+3*k+5<recursionLimit
 un:A.units+16*k+200<cLine
def OU.mono{j k:Nat}(r:OU k A)(h:j<=k):OU j A:=⟨r.hd,by have:=r.dp;lia,by have:=r.un;lia⟩
def OU.m{j k:Nat}(r:OU k A)(h:j<=k:=by decide):OU j A:=r.mono h
def OU.deeper{k:Nat}(r:OU (k+1) A)(env:Env):OU k (A.deeper env):=
 ⟨r.hd,by have:=r.dp;show A.depth+1+3*k+5<_;lia,by have:=r.un;show A.units+3+16*k+200<_;lia⟩
variable{kw:List (Str×Uk)}
def sS:(A.under (.builtin "type.__call__" ⟨.ref C::us,kw⟩)).depth=A.depth+1:=by
 first|rfl|simp[Around.under,Code.weight,Code.isCreation,Code.isGuard,Code.isCaller,Code.frames,Code.isFrame,guardIds]
def sT:(A.under (.builtin "type.__call__" ⟨.ref C::us,kw⟩)).units=A.units+1:=by
 first|rfl|simp[Around.under,Code.cUnits,Code.frames,Code.isFrame]
def OU.make{k:Nat}(r:OU (k+1) A)(C:Ul)(us:List Uk)(kw:List (Str×Uk)):OU k (A.under (.builtin "type.__call__" ⟨.ref C::us,kw⟩)):=
 ⟨r.hd,by have:=r.dp;rw[sS];lia,by have:=r.un;rw[sT];lia⟩
def OU.depth{k:Nat}(r:OU k A):A.depth<recursionLimit:=by have:=r.dp;lia
def OU.units{k:Nat}(r:OU k A):A.units+64<cLine:=by have:=r.un;lia
def GT:TA:=fun _ H Q=>Q [] H
def GU(ta:TE)(tr:TA):TA:=fun σ H Q=>ta σ H fun x H1=>tr σ H1 fun xs H2=>Q (x::xs) H2
section
variable{X:Cx}{e:Expr}{es:List Expr}{te:TE}{t:TA}{pos:Pos}
def ab:PA X [] GT:=⟨fun _ _ _ _ H Q I h=>Calls.spliced_nil ⟨[],H,I,.nil,h⟩⟩
def aa(ha:PE X e te)(hr:PA X es t)(hs:starEach (e::es) X.env=(false,eval e X.env)::starEach es X.env:=by rfl):PA X (e::es) (GU te t):=by
 refine⟨?_⟩;intro pos MC s σ H Q I h;rw[hs];show wpAny _ _ (spliced ((false,eval e X.env)::backTo pos (starEach es X.env))) _ _ s;refine R7 (cg (ha MC s σ H _ I h) fun u s1 hZZ=>?_);obtain⟨x,H1,I1,r1,q1⟩:=hZZ;exact cg (hr pos MC s1 σ H1 _ I1 q1) fun us s2⟨xs,H2,I2,r2,q2⟩=>⟨x::xs,H2,I2,.cons r1 r2,q2⟩
def Je(t:TA):TE:=fun σ H Q=>t σ H fun xs H1=>xs.length<=sizeLine/\∀p,H1 p=none->Q (.ref p) (aM H1 p (.tup xs))
def Jf(t:TA):TE:=fun σ H Q=>t σ H fun xs H1=>xs.length<=sizeLine/\∀p,H1 p=none->Q (.ref p) (aM H1 p (.lst xs))
def aK{x1}(h:PA X es t):PE X (.Tuple es x1 pos) (Je t):=by
 refine⟨?_⟩;intro MC s σ H Q I hq;refine wpAny_Tuple_spliced (cg (h pos MC s σ H _ I hq) fun us s1⟨xs,H1,I1,r,z,q⟩=>⟨by rw[<-r.length];exact z,?_⟩);have hf:H1 s1.heap.objs.size=none:=I1.hok.fresh (KO _);refine⟨.ref s1.heap.objs.size,aM H1 s1.heap.objs.size (.tup xs),I1.laid (t':=s1.toks) (fun b u e=>KE _ e) (KO _) ?_,rfl,q _ hf⟩;exact⟨z,us,r,⟨_,K9 _ rfl,rfl,_,rfl⟩⟩
def aP(h:PA X es t):PE X (.List es pos) (Jf t):=by
 refine⟨?_⟩;intro MC s σ H Q I hq;refine wpAny_List_spliced (cg (h pos MC s σ H _ I hq) fun us s1⟨xs,H1,I1,r,z,q⟩=>⟨by rw[<-r.length];exact z,?_⟩);have hf:H1 s1.heap.objs.size=none:=I1.hok.fresh (KO _);refine⟨.ref s1.heap.objs.size,aM H1 s1.heap.objs.size (.lst xs),I1.laid (t':=s1.toks) (fun b u e=>KE _ e) (KO _) ?_,rfl,q _ hf⟩;exact⟨z,us,0,r,K9 _ rfl⟩
end
abbrev Sp:=Uv->Hp->VK->XK->Prop
abbrev xM:=List Env->Hp->Um->XK->Uk->Um->Prop
structure QM(P:Uo)(w:Up)(K:ZF)(mg:Str->Option Uk)(base:Heap)(A:Uq)(outer:List Env)(s:Um)(H:Hp):Prop where
 frames:A.frames=some outer
 mod:Mod K mg base
 bs:∀b o,base.get? b=some o->s.heap.get? b=some o/\H b=none
 bsz:base.objs.size<=s.heap.objs.size
 funs:s.heap.FunFrames base outer
 frf:∀b∈wJ outer,H b=none
 hok:PJ P w H s.heap
 bare:AllBare s.gens
inductive CE(outer:List Env)(P:Uo)(w:Up)(H:Hp)(s:Um)(Q:VK)(u:Uk)(s':Um):Prop
 |mk(v H':_):s'.os=s.os->AllBare s'.gens->Un (wJ outer) [] H H' s.heap s'.heap->PJ P w H' s'.heap->OW v u->Q v H'->CE outer P w H s Q u s'
def CR(CX:xM)(outer:List Env)(P:Uo)(w:Up)(H:Hp)(s:Um)(Q:VK)(E:XK)(r:Result)(s':Um):Prop:=
 match r with
 |.ok (.ret u)=>CE outer P w H s Q u s'
 |.ok _=>False
 |.error e=>CX outer H s E e s'
structure OQ(P:Uo)(w:Up)(K:ZF)(mg:Str->Option Uk)(base:Heap)(CX:xM)(k:Nat)(f:Ul)(fd:Ur)(ps:Us)(sp:Sp):Prop where
 len:∀vs H Q E,sp vs H Q E->vs.length=ps.length
 run:∀(A:Uq)(outer:List Env)(s:Um)(H:Hp)(args:Args)(us:List Uk)(vs:Uv)(Q:VK)(E:XK),OU k A->QM P w K mg base A outer s H->BindsTo s fd args (ps.zip us)->OV vs us->sp vs H Q E->
  codeAny (model P w) A (.call (.ref f) args) (CR CX outer P w H s Q E) s
variable{ps:Us}{fd:Ur}{CX:xM}{base:Heap}{mg:Str->Option Uk}
def OQ.mono{j k:Nat}{f:Ul}{sp:Sp}(F:OQ P w K mg base CX j f fd ps sp)(h:j<=k):
  OQ P w K mg base CX k f fd ps sp:=⟨F.len,fun A outer s H args us vs Q E hr=>F.run A outer s H args us vs Q E (hr.mono h)⟩
variable{outer:List Env}
def QM.make(e:QM P w K mg base A outer s H)(C:Ul)(us:List Uk)(kw:List (Str×Uk)):
  QM P w K mg base (A.under (.builtin "type.__call__" ⟨.ref C::us,kw⟩)) outer s H:=⟨by first|exact e.frames|(simpa[Around.under,Code.envs,Code.isFrame,pushEnvs]using e.frames),e.mod,e.bs,e.bsz,e.funs,e.frf,e.hok,e.bare⟩
section
variable{X:Cx}{MC:List (Ul×Obj)}{σ:St}{H:Hp}{s s':Um}
def OR.env0(I:OR X MC σ H s):QM X.prog X.w X.K X.mg X.base X.A X.stack s H:=
 ⟨I.ok.frames,I.ok.mod,I.bs,Ll I.ok.bsz I.sz,I.stack,I.stkFree,I.hok,I.bare⟩
def OR.after{Q:VK}(I:OR X MC σ H s)(h:CE X.stack X.prog X.w H s Q u s'):EP X MC σ Q u s':=by
 obtain⟨v,H',os,bare,un,hok,r,q⟩:=h;obtain⟨hh,g,d,t,os'⟩:=s';obtain rfl:os'=s.os:=os;exact⟨v,H',I.call (h':=hh) (g':=g) (d':=d) (t':=t) (ch:=[]) un hok bare (fun b z=>absurd z (by simp)),r,q⟩
end
def Dr(sp:Sp)(dvs:Uv)(E:XK)(t:TA):TE:=fun σ H Q=>t σ H fun vs H1=>sp (vs++dvs) H1 Q E
def GV(C:Ul)(sp:Sp)(dvs:Uv)(E:XK)(t:TA):TE:=fun σ H Q=>t σ H fun vs H1=>∀x dx,H1 x=none->H1 dx=none->dx≠x->
 sp (.ref x::(vs++dvs)) (aM (aM H1 dx (.own x)) x (.ins C dx [])) (fun v H2=>v=.non/\Q (.ref x) H2) E
def Pb(K:ZF)(fd:Ur)(ps:Us)(ds:List Uk):Prop:=
 ∀(s:Um)(us:List Uk),K.In s.heap->(us++ds).length=ps.length->BindsTo s fd ⟨us,[]⟩ (ps.zip (us++ds))
def Pb.all(h:∀us:List Uk,us.length=ps.length->bindArgs fd ⟨us,[]⟩=pure (ps.zip us)):Pb K fd ps []:=fun s us _ hl=>by
 rw[Lm]at hl⊢;exact .of_eq (h us hl)
def jv(CX:xM)(X:Cx)(E:XK):Prop:=∀(MC:List (Ul×Obj))(σ:St)(H:Hp)(s:Um)(e:Uk)(s':Um),OR X MC σ H s->CX X.stack H s E e s'->X.xe e s'
section
variable{X:Cx}{CX:xM}{k:Nat}{f C:Ul}{fd:Ur}{ps:Us}{sp:Sp}{dvs:Uv}{ds:List Uk}{E:XK}{x m:Str}{p pos L':Pos}{e o:Expr}{es:List Expr}{ta:TE}{t:TA}
def ow{MC:List (Ul×Obj)}{σ:St}{H:Hp}{s:Um}{Q:VK}{us:List Uk}{vs:Uv}(F:OQ X.prog X.w X.K X.mg X.base CX k f fd ps sp)(hr:OU k X.A)(hb:Pb X.K fd ps ds)(hd:OV dvs ds)(hx:jv CX X E)
  (I:OR X MC σ H s) (r:OV vs us) (h:sp (vs++dvs) H Q E):wpAny (model X.prog X.w) X.A (call (.ref f) us) (EP X MC σ Q) X.xe s:=by
 have r2:OV (vs++dvs) (us++ds):=r.append hd;have hl:(us++ds).length=ps.length:=by rw[<-r2.length];exact F.len _ _ _ _ h
 refine wpAny_call (Sg (F.run X.A X.stack s H ⟨us,[]⟩ (us++ds) (vs++dvs) Q E hr I.env0 (hb s us I.kIn hl) r2 h) fun r s' hq=>?_);cases r with
 |error e=>exact hx MC σ H s e s' I hq
 |ok fl=>
  cases fl with
  |ret u=>exact I.after hq
  |next=>exact False.elim hq
  |brk=>exact False.elim hq
  |cont=>exact False.elim hq
def vC(F:OQ X.prog X.w X.K X.mg X.base CX k f fd ps sp)(hr:OU k X.A)(hg:Gl X x)(hm:X.mg x=some (.ref f))(hk:PySem.W.keepIn X.K (.ref f)=true)(hb:Pb X.K fd ps ds)(hd:OV dvs ds)(hx:jv CX X E)
  (ha:PA X (e::es) t) (Wb:(x==("__debug__":Str))=false:=by decide) (he:starEach (e::es) X.env=(false,eval e X.env)::starEach es X.env:=by rfl) (Vc:(backTo pos (starEach es X.env)).any (·.1)=false:=by rfl) :
  PE X (.Call (.Name x p) (e::es) [] pos) (Dr sp dvs E t):=by
 refine⟨?_⟩;intro MC s σ H Q I h;refine y_ (kc I hg hm ?_ Wb);refine RP (h₀:=X.base) I.ok.mod.kin hk (cg (ha pos MC s σ H _ I h) fun us s1⟨vs,H1,I1,r,q⟩=>⟨I1.kIn,?_⟩) he Vc;exact ow F hr hb hd hx I1 r q
def x9(F:OQ X.prog X.w X.K X.mg X.base CX k f fd ps sp)(hr:OU k X.A)(hg:Gl X x)(hm:X.mg x=some (.ref f))(hk:PySem.W.keepIn X.K (.ref f)=true)(hb:Pb X.K fd ps ds)(hd:OV dvs ds)(hx:jv CX X E)
  (Wb:(x==("__debug__":Str))=false:=by decide):PE X (.Call (.Name x p) [] [] pos) (Dr sp dvs E GT):=by
 refine⟨?_⟩;intro MC s σ H Q I h;refine y_ (kc I hg hm ?_ Wb);exact PySem.W.callWith_K0 I.kIn hk (ow (us:=[]) F hr hb hd hx I .nil h)
structure Mk(K:ZF)(C f:Ul):Prop where
 makes:PySem.W.makesIn K C=true
 init:PySem.W.findIn K (.ref C) "__init__"=some (some (.ref f))
 fn:PySem.W.isFn K (.ref f)=true
 kp:PySem.W.keepIn K (.ref C)=true
def ya{MC:List (Ul×Obj)}{σ:St}{H:Hp}{s:Um}{Q:VK}{us:List Uk}{vs:Uv}(M:Mk X.K C f)(F:OQ X.prog X.w X.K X.mg X.base CX k f fd ps sp)(hr:OU (k+1) X.A)(hb:Pb X.K fd ps ds)(hd:OV dvs ds)
  (hx:jv CX X E) (I:OR X MC σ H s) (r:OV vs us)
  (h:∀x dx,H x=none->H dx=none->dx≠x->sp (.ref x::(vs++dvs)) (aM (aM H dx (.own x)) x (.ins C dx [])) (fun v H2=>v=.non/\Q (.ref x) H2) E) :
  wpAny (model X.prog X.w) X.A (call (.ref C) us) (EP X MC σ Q) X.xe s:=by
 have hq:=h (s.heap.objs.size+1) s.heap.objs.size (I.hok.fresh (Nat.le_succ _)) (I.hok.fresh (KO _)) (Lk (Mn _));have I2:=OR.made (C:=C) I;have r2:OV (V.ref (s.heap.objs.size+1)::(vs++dvs)) (Value.ref (s.heap.objs.size+1)::(us++ds)):=.cons rfl (r.append hd);have hl:(Value.ref (s.heap.objs.size+1)::us++ds).length=ps.length:=by
  have e:=r2.length;rw[F.len _ _ _ _ hq]at e;exact e.symm
 refine wpAny_call (xZ (f:=f) I.kIn M.makes M.init (beq_iff_eq.mp M.fn) (Sg (F.run _ X.stack _ _ ⟨Value.ref (s.heap.objs.size+1)::us,[]⟩ (Value.ref (s.heap.objs.size+1)::(us++ds)) _ _ E (hr.make C us [])
  (I2.env0.make C us []) (hb _ (Value.ref (s.heap.objs.size+1)::us) I2.kIn hl) r2 hq) fun r s' W9=>?_))
 cases r with
 |error e=>exact hx MC σ _ _ e s' I2 W9
 |ok fl=>
  cases fl with
  |ret u=>
   obtain⟨v,H',I3,rv,ev,q3⟩:=I2.after W9;subst ev;exact⟨rv,⟨V.ref (s.heap.objs.size+1),H',I3,rfl,q3⟩⟩
  |next=>exact False.elim W9
  |brk=>exact False.elim W9
  |cont=>exact False.elim W9
def ke(M:Mk X.K C f)(F:OQ X.prog X.w X.K X.mg X.base CX k f fd ps sp)(hr:OU (k+1) X.A)(hg:Gl X x)(hm:X.mg x=some (.ref C))(hb:Pb X.K fd ps ds)(hd:OV dvs ds)(hx:jv CX X E)
  (ha:PA X (e::es) t) (Wb:(x==("__debug__":Str))=false:=by decide) (he:starEach (e::es) X.env=(false,eval e X.env)::starEach es X.env:=by rfl) (Vc:(backTo pos (starEach es X.env)).any (·.1)=false:=by rfl) :
  PE X (.Call (.Name x p) (e::es) [] pos) (GV C sp dvs E t):=by
 refine⟨?_⟩;intro MC s σ H Q I h;refine y_ (kc I hg hm ?_ Wb);refine RP (h₀:=X.base) I.ok.mod.kin M.kp (cg (ha pos MC s σ H _ I h) fun us s1⟨vs,H1,I1,r,q⟩=>⟨I1.kIn,?_⟩) he Vc;exact ya M F hr hb hd hx I1 r q
end
structure az(N P:Us)(sc:Scope):Prop where
 kind:sc.kind=.function
 co:sc.isCoroutine=false
 gen:sc.isGenerator=false
 nd:N.Nodup
 pre:N.take P.length=P
 par:∀x∈P,sc.names.lookup x=some .local\/sc.names.lookup x=some .cell
 nofree:∀y∈sc.names,y.2≠.free
variable{sc:Scope}
def cv{N P:Us}(h:N.Nodup/\(∀x∈P,sc.names.lookup x=some .local\/sc.names.lookup x=some .cell)/\∀y∈sc.names,y.2≠.free)(a:sc.kind=.function:=by rfl)(b:sc.isCoroutine=false:=by rfl)(c:sc.isGenerator=false:=by rfl)(d:N.take P.length=P:=by rfl):az N P sc:=⟨a,b,c,h.1,d,h.2.1,h.2.2⟩
variable{n:Nat}
variable{kindOf:Str->Option NameKind}
def nv{x:Str}:∀{binds:List (Str×Uk)}{m:Str->Option Uk},(∀v,(x,v)∉binds)->bindL kindOf binds m x=m x
 |[],_,_=>rfl
 |(n,v)::r,m,h=>by
  unfold bindL;rw[nv fun w hw=>h w (KM _ hw)];split
  ·have:x≠n:=by rintro rfl;exact h v KB
   simp[this]
  ·rfl
def nA{x:Str}:∀{binds:List (Str×Uk)}{m:Str->Option Uk},(∀v,(x,v)∉binds)->bindC kindOf binds m x=m x
 |[],_,_=>rfl
 |(n,v)::r,m,h=>by
  unfold bindC;rw[nA fun w hw=>h w (KM _ hw)];split
  ·rfl
  ·have:x≠n:=by rintro rfl;exact h v KB
   simp[this]
def nB{x:Str}{v:Uk}:∀{P:Us}{vs:List Uk}{i:Nat}{m:Str->Option Uk},P.Nodup->P[i]?=some x->vs[i]?=some v->kindOf x=some .local->
  bindL kindOf (P.zip vs) m x=some v
 |[],_,_,_,_,h,_,_=>by simp at h
 |_::_,[],_,_,_,_,h,_=>by simp at h
 |p::P,w::vs,0,m,nd,h1,h2,hk=>by
  simp at h1 h2;subst h1;subst h2;show bindL kindOf ((p,w)::P.zip vs) m p=_;unfold bindL;rw[nv fun v hv=>(Mj.mp nd).1 (R5 hv).1,f_ hk];simp
 |p::P,w::vs,i+1,m,nd,h1,h2,hk=>by
  show bindL kindOf ((p,w)::P.zip vs) m x=_;unfold bindL;exact nB (i:=i) (Mj.mp nd).2 (by simpa using h1) (by simpa using h2) hk
def nC{x:Str}{v:Uk}:∀{P:Us}{vs:List Uk}{i:Nat}{m:Str->Option Uk},P.Nodup->P[i]?=some x->vs[i]?=some v->kindOf x≠some .local->
  bindC kindOf (P.zip vs) m x=some v
 |[],_,_,_,_,h,_,_=>by simp at h
 |_::_,[],_,_,_,_,h,_=>by simp at h
 |p::P,w::vs,0,m,nd,h1,h2,hk=>by
  simp at h1 h2;subst h1;subst h2;show bindC kindOf ((p,w)::P.zip vs) m p=_;unfold bindC;rw[nA fun v hv=>(Mj.mp nd).1 (R5 hv).1,e_ hk];simp
 |p::P,w::vs,i+1,m,nd,h1,h2,hk=>by
  show bindC kindOf ((p,w)::P.zip vs) m x=_;unfold bindC;exact nC (i:=i) (Mj.mp nd).2 (by simpa using h1) (by simpa using h2) hk
def start(N:Us)(vs:Uv):St:=vs.map some++List.replicate (N.length-vs.length) none
def sU(CX:xM)(P:Uo)(w:Up)(K:ZF)(mg:Str->Option Uk)(base:Heap)(N:Us)(qual:Str)(scope:Scope)(f:Ul)(cd:Uk)(A:Uq)(outer:List Env)(s:Um)(H:Hp)(E:XK):Cx where
 prog:=P
 w:=w
 K:=K
 mg:=mg
 base:=base
 A:=A.deeper (envOfC qual scope s.heap.objs.size f cd)
 N:=N
 s₀:=s
 H₀:=H
 env:=envOfC qual scope s.heap.objs.size f cd
 outer:=outer
 stack:=envOfC qual scope s.heap.objs.size f cd::outer
 ex:=[]
 calm:=true
 fn:=fun _=>true
 pn:=[]
 xe:=fun e s'=>wpAny (model P w) (A.deeper (envOfC qual scope s.heap.objs.size f cd)) (leaving (envOfC qual scope s.heap.objs.size f cd) e) (fun _ s''=>CX outer H s E e s'') (fun e' s''=>CX outer H s E e' s'') s'
def qP{x:Str}(h:sc.names.lookup x=some .cell):∃c,(cellsFrom n sc.names []).lookup x=some c:=by
 have q:=PySem.W.cellsFrom_some sc.names n [] (.inl h);exact Option.isSome_iff_exists.mp q
def wP{CX:xM}{P:Uo}{w:Up}{K:ZF}{mg:Str->Option Uk}{base:Heap}{N ps:Us}{qual:Str}{scope:Scope}{f:Ul}{cd:Uk}{A:Uq}{outer:List Env}{s s1:Um}{H:Hp}{E:XK}{us:List Uk}{vs:Uv}
  (S:az N ps scope) (hd:A.handled=none) (e0:QM P w K mg base A outer s H) (hl:vs.length=ps.length) (r:OV vs us)
  (x:InCallC s s.heap.objs.size (bindL (envOfC qual scope s.heap.objs.size f cd).kindOf (ps.zip us) fun _=>none) (cellsFrom (s.heap.objs.size+1) scope.names []) (bindC (envOfC qual scope s.heap.objs.size f cd).kindOf (ps.zip us) fun _=>none) s1) :
  OR (sU CX P w K mg base N qual scope f cd A outer s H E) [] (start N vs) H s1:=by
 have Vc:ps.length<=N.length:=by have:=d_ List.length S.pre;rw[KG]at this;lia
 obtain⟨h1,tk,rfl,hk⟩:=x.done;have Zg:∀b:Ul,b∉(sU CX P w K mg base N qual scope f cd A outer s H E).ex:=fun b z=>absurd (show b∈([]:List Ul)from z) (by simp);refine⟨⟨e0.mod,S.kind,rfl,rfl,KO _,fun y z c h1 h2=>?_,fun y hy=>?_,fun y c _ h=>?_,fun _=>hd,Around.frames_deeper e0.frames,.inr ⟨rfl,rfl⟩,fun b z=>absurd z (Zg b),e0.bs,e0.bsz,fun b _ _=>Zg b,fun b z=>absurd z (Zg b),e0.funs,e0.frf⟩,
  rfl,e0.bare,Un.kept hk,⟨_,x.toInCall.ns,fun i y v h1 h2 h3=>?_⟩,fun y c h=>⟨_,x.cell y c h⟩,e0.hok.fresh (KO _),fun y c h=>?_,fun p hp=>absurd (show p∈([]:List (Ul×Obj))from hp) (by simp),e0.hok.kept hk,?_⟩
 ·exact name_of_addr x.apart (Me h1) (Me h2)
 ·have hy:scope.names.lookup y=some .cell\/scope.names.lookup y=some .free:=hy;rcases hy with hy|hy
  ·exact qP hy
  ·exact absurd rfl (S.nofree _ (Me hy))
 ·exact Nat.le_of_lt (x.above y c (Me h))
 ·have hi:i<vs.length:=by
   unfold start at h2;by_cases hi:i<vs.length
   ·exact hi
   ·rw[L0 (by simpa using hi)]at h2;rw[List.getElem?_replicate]at h2;split at h2<;>cases h2
  have ha:vs[i]?=some v:=by
   unfold start at h2;rw[Ma (by simpa using hi),KZ]at h2;cases e:vs[i]? with
   |none=>rw[e]at h2;cases h2
   |some a=>rw[e]at h2;cases h2;rfl
  obtain⟨u,hu,rv⟩:=r.get ha;have hp:ps[i]?=some y:=by
   rw[<-S.pre,Sh zo];exact h1
  have ndP:ps.Nodup:=by rw[<-S.pre];exact S.nd.sublist (RU _ _)
  refine⟨u,rv,?_⟩;rcases S.par y (KQ hp)with k|k
  ·exact .inl ⟨k,nB ndP hp hu k⟩
  ·obtain⟨c,e⟩:=qP (n:=s.heap.objs.size+1) k;refine .inr ⟨.inl k,c,e,?_⟩;have q:=x.cell y c e;rw[nC ndP hp hu (by show scope.names.lookup y≠_;rw[k];decide)]at q;exact q
 ·exact e0.hok.fresh (Nat.le_of_lt (x.above y c (Me h)))
 ·unfold start;show _=N.length;rw[Kz,Ky,Lp];lia
def Ds{CX:xM}{P:Uo}{w:Up}{K:ZF}{mg:Str->Option Uk}{base:Heap}{k:Nat}{f:Ul}{name qual:Str}{params:Arguments}{body:List Stmt}{scope:Scope}{dV kV doc pm MN ct oc:Uk}{an od:Option Ul}
  {UN:Array (Option Uk)} {N ps:Us} {sp:Sp} (lk:K.lookup f=some ⟨oc,od,.func (PySem.W.fnOf name qual params body scope dV kV doc pm an MN ct),UN⟩) (VH:PySem.W.codeIn K MN qual=true) (S:az N ps scope)
  (len:∀vs H Q E,sp vs H Q E->vs.length=ps.length)
  (Vm:∀(A:Uq)(outer:List Env)(s:Um)(H:Hp)(vs:Uv)(Q:VK)(E:XK),OU k (A.deeper (envOfC qual scope s.heap.objs.size f MN))->sp vs H Q E->
   ∃t,Qx (sU CX P w K mg base N qual scope f MN A outer s H E) body t/\t {nx:=fun _ H'=>Q .non H',rt:=Q} (start N vs) H) :
  OQ P w K mg base CX (k+1) f (PySem.W.fnOf name qual params body scope dV kV doc pm an MN ct) ps sp:=by
 refine⟨len,fun A outer s H args us vs Q E hr e0 hb r V_=>?_⟩;have hl:=len _ _ _ _ V_;have KX:K.In s.heap:=e0.mod.kin.keeps fun b o e=>(e0.bs b o e).1;have lim:s.heap.NoLimit:=e0.mod.nolimit.keeps fun b o e=>(e0.bs b o e).1;have hkind:∀y∈ps.zip us,scope.names.lookup y.1=some .local\/(scope.names.lookup y.1=some .cell/\((cellsFrom (s.heap.objs.size+1) scope.names []).lookup y.1).isSome=true):=fun⟨n,v⟩hy=>by
  rcases S.par n (R5 hy).1 with q|q
  ·exact .inl q
  ·exact .inr ⟨q,PySem.W.cellsFrom_some _ _ _ (.inl q)⟩
 refine codeAny_call_function hr.depth (KX _ _ lk) rfl S.co S.gen rfl (PySem.W.codeRec_of KX VH) (hb _ _ _ _ ?_);refine wpAny_newFunctionEnv_cells S.kind hkind fun env he s1 x=>?_;subst he;refine⟨lim.keeps x.toInCall.keep,codeAny_func ?_⟩;obtain⟨t,ht,hq⟩:=Vm A outer s H vs Q E (hr.deeper _) V_;have I:OR (sU CX P w K mg base N qual scope f MN A outer s H E) [] (start N vs) H s1:=wP S hr.hd e0 hl r x;refine q_ (ht [] s1 (start N vs) H _ I hq) (fun fl s' hs=>?_) fun e s' hs=>hs;have F':∀{σ':St}{H':Hp}{v:V}{u:Uk},OR (sU CX P w K mg base N qual scope f MN A outer s H E) [] σ' H' s'->OW v u->Q v H'->CE outer P w H s Q u s':=
  fun{σ' H' v u}J rv q=>⟨v,H',J.os,J.bare,J.base,J.hok,rv,q⟩
 cases fl with
 |ret u=>
  obtain⟨v,σ',H',J,rv,q⟩:=hs;exact F' J rv q
 |next=>
  obtain⟨σ',H',J,q⟩:=hs;exact F' (v:=V.non) (u:=Value.none) J rfl q
 |brk=>
  obtain⟨_,_,_,q⟩:=hs;exact False.elim q
 |cont=>
  obtain⟨_,_,_,q⟩:=hs;exact False.elim q
section
variable{X:Cx}{x:Str}{p pos:Pos}{e:Expr}{es:List Expr}{t:TA}{id T:String}{r:Uv->Hp->VK->Prop}
def J9(r:Uv->Hp->VK->Prop)(t:TA):TE:=fun σ H Q=>t σ H fun vs H1=>r vs H1 Q
def aI(hc:ff X (.builtin id) r)(hg:Gl X x)(hm:X.mg x=none)(hv:bootBuiltins x=some (.builtin id))(ha:PA X (e::es) t)(hn:x≠"__name__":=by decide)(Wb:(x==("__debug__":Str))=false:=by decide)
  (he:starEach (e::es) X.env=(false,eval e X.env)::starEach es X.env:=by rfl) (Vc:(backTo pos (starEach es X.env)).any (·.1)=false:=by rfl):PE X (.Call (.Name x p) (e::es) [] pos) (J9 r t):=by
 refine⟨?_⟩;intro MC s σ H Q I h;refine y_ (io I hg hm hv ?_ hn Wb);exact PyProof.Rows.callWith_builtin1 (cg (ha pos MC s σ H _ I h) fun us s1⟨vs,H1,I1,r1,q1⟩=>hc MC s1 σ H1 vs us Q I1 r1 q1) he Vc
def aY(hc:ff X (.type T) r)(hg:Gl X x)(hm:X.mg x=none)(hv:bootBuiltins x=some (.type T))(ha:PA X (e::es) t)(hn:x≠"__name__":=by decide)(Wb:(x==("__debug__":Str))=false:=by decide)
  (he:starEach (e::es) X.env=(false,eval e X.env)::starEach es X.env:=by rfl) (Vc:(backTo pos (starEach es X.env)).any (·.1)=false:=by rfl):PE X (.Call (.Name x p) (e::es) [] pos) (J9 r t):=by
 refine⟨?_⟩;intro MC s σ H Q I h;refine y_ (io I hg hm hv ?_ hn Wb);exact LL (cg (ha pos MC s σ H _ I h) fun us s1⟨vs,H1,I1,r1,q1⟩=>hc MC s1 σ H1 vs us Q I1 r1 q1) he Vc
end
end L2
namespace HT
open PySem PyProof.Rows
section
variable{prog:Uo}{w:Up}{A:Uq}{E:Uk->Um->Prop}{s:Um}
def sIx(n d:Nat):Option Int->Nat
 |none=>d
 |some v=>if v<0 then(v+(n:Int)).toNat else min v.toNat n
def sIx_none(n d:Nat):sIx n d none=d:=rfl
def sIx_nat(n d k:Nat):sIx n d (some (k:Int))=min k n:=by
 show(if(k:Int)<0 then((k:Int)+(n:Int)).toNat else min (k:Int).toNat n)=min k n;rw[e_ zo,Lu]
end
end HT
namespace L2
open PySem PySem.Spec PyProof.Rows
abbrev TO:=St->Hp->(Option Int->Hp->Prop)->Prop
structure PO(X:Cx)(e:Option Expr)(t:TO):Prop where
 run:∀(MC:List (Ul×Obj))(s:Um)(σ:St)(H:Hp)(Q:Option Int->Hp->Prop),OR X MC σ H s->t σ H Q->
  wpAny (model X.prog X.w) X.A (evalPart e X.env) (fun u s'=>∃o H',OR X MC σ H' s'/\IsPart u o/\Q o H') X.xe s
instance {X:Cx}{e:Option Expr}{t:TO}:CoeFun (PO X e t) fun _=>∀(MC:List (Ul×Obj))(s:Um)(σ:St)(H:Hp)(Q:Option Int->Hp->Prop),OR X MC σ H s->t σ H Q->
  wpAny (model X.prog X.w) X.A (evalPart e X.env) (fun u s'=>∃o H',OR X MC σ H' s'/\IsPart u o/\Q o H') X.xe s:=⟨PO.run⟩
def Br:TO:=fun _ H Q=>Q none H
inductive yb(Q:Option Int->Hp->Prop)(x:V)(H1:Hp):Prop
 |mk(i:_):x=.int i->Q (some i) H1->yb Q x H1
def yc(t:TE):TO:=fun σ H Q=>t σ H fun x H1=>yb Q x H1
section
variable{X:Cx}{e:Expr}{te:TE}{lo hi:Option Expr}{tl th:TO}{pos p2:Pos}
def oy:PO X none Br:=by
 refine⟨?_⟩;intro MC s σ H Q I h;rw[evalPart_none];exact i_ ⟨none,H,I,.none,h⟩
def dP(h:PE X e te):PO X (some e) (yc te):=by
 refine⟨?_⟩;intro MC s σ H Q I hw;rw[evalPart_some];refine cg (h MC s σ H _ I hw) fun u s1 hZZ=>?_;obtain⟨x,H1,I1,r1,q1⟩:=hZZ;obtain⟨i,rfl,q⟩:=q1;obtain⟨t,rfl⟩:=r1;exact⟨some i,H1,I1,.int i t,q⟩
def Jg(X:Cx)(r:V->Option Int->Option Int->Hp->VK->Prop):Prop:=
 ∀(MC:List (Ul×Obj))(s:Um)(σ:St)(H:Hp)(x:V)(v vl vu:Uk)(lo hi:Option Int)(sl:Ul)(Q:VK),OR X MC σ H s->OW x v->s.heap.IsSliceOf sl vl vu .none->IsPart vl lo->IsPart vu hi->r x lo hi H Q->
  ∃T id,typeLookup (.type T) "__getitem__"=pure (some (.builtin id))/\s.TypeIs v T/\wpAny (model X.prog X.w) X.A (getItem v (.ref sl)) (EP X MC σ Q) X.xe s
def Ka(r:V->Option Int->Option Int->Hp->VK->Prop)(te:TE)(tl th:TO):TE:=fun σ H Q=>te σ H fun x H1=>tl σ H1 fun l H2=>th σ H2 fun u H3=>r x l u H3 Q
def fh{r:V->Option Int->Option Int->Hp->VK->Prop}(hr:Jg X r)(he:PE X e te)(hl:PO X lo tl)(hu:PO X hi th):PE X (.Subscript e (.Slice lo hi none p2) pos) (Ka r te tl th):=by
 refine⟨?_⟩;intro MC s σ H Q I h;refine Subscript_ (cg (he MC s σ H _ I h) fun v s1 hZZ=>?_);obtain⟨x,H1,I1,r1,q1⟩:=hZZ;refine wpAny_Slice (cg (hl MC s1 σ H1 _ I1 q1) fun vl s2⟨l,H2,I2,pl,q2⟩=>cg (hu MC s2 σ H2 _ I2 q2) fun vu s3 hZZ=>?_);obtain⟨u,H3,I3,pu,q3⟩:=hZZ;rw[evalPart_none];refine i_ ?_;have I4:OR X MC σ H3 {s3 with heap:=s3.heap.push {cls:=.type "slice",data:=.fields #[vl,vu,.none]} }:=I3.kept (t':=s3.toks) fun b ob q=>KE _ q;obtain⟨T,id,hT,ht,hg⟩:=hr MC {s3 with heap:=s3.heap.push {cls:=.type "slice",data:=.fields #[vl,vu,.none]} } σ H3 x v vl vu l u s3.heap.objs.size Q I4 r1 (Heap.IsSliceOf.new ..) pl pu q3;show wpAny (model X.prog X.w) X.A (subscriptTail e (.Slice lo hi none p2) v (.ref s3.heap.objs.size)) (EP X MC σ Q) X.xe {s3 with heap:=s3.heap.push {cls:=.type "slice",data:=.fields #[vl,vu,.none]} };exact tail_any (ops:=[.ref s3.heap.objs.size,v]) ht hT hg (by with_unfolding_all rfl)
def mS(xs:Uv)(lo hi:Option Int):Uv:=(xs.drop (HT.sIx xs.length 0 lo)).take (HT.sIx xs.length xs.length hi-HT.sIx xs.length 0 lo)
def qQ(xs:Uv)(lo hi:Option Int):(mS xs lo hi).length<=xs.length:=by
 unfold mS;rw[KG,Ls];lia
end
def Bs(n:Nat)(i:Int):Option Nat:=if 0<=i then(if i<n then some i.toNat else none)else if -(n:Int)<=i then some (i+n).toNat else none
def oz{α:Type}(xs:List α)(i:Int):Option α:=(Bs xs.length i).bind fun j=>xs[j]?
variable{j:Nat}{i:Int}{n:Nat}
def vD(h:Bs n i=some j):seqIndex? i n=some j/\j<n/\-(n:Int)<=i/\i<n:=by
 unfold Bs at h;by_cases h0:0<=i
 ·rw[f_ h0]at h;by_cases h1:i<n
  ·rw[f_ h1]at h;have e:i.toNat=j:=Lc h;exact⟨by rw[seqIndex_of h0 h1,e],zo,zo,h1⟩
  ·rw[e_ h1]at h;cases h
 ·rw[e_ h0]at h;by_cases h1:-(n:Int)<=i
  ·rw[f_ h1]at h;have e:(i+n).toNat=j:=Lc h;exact⟨by rw[seqIndex_neg zo h1,e],zo,h1,zo⟩
  ·rw[e_ h1]at h;cases h
def oA{α:Type}{xs:List α}{v:α}(h:oz xs i=some v):∃j,seqIndex? i xs.length=some j/\xs[j]?=some v/\j<xs.length/\-(xs.length:Int)<=i/\i<xs.length:=by
 unfold oz at h;cases e:Bs xs.length i with
 |none=>rw[e]at h;cases h
 |some j=>
  rw[e]at h;obtain⟨h1,h2,h3,h4⟩:=vD e;exact⟨j,h1,h,h2,h3,h4⟩
def bf{α:Type}{xs:List α}{v:α}(h:xs[j]?=some v):oz xs (j:Int)=some v:=by
 have hj:j<xs.length:=(Kx.mp h).1;have e:Bs xs.length (j:Int)=some j:=by
  unfold Bs;rw[f_ zo,f_ zo];simp
 unfold oz;rw[e];exact h
def Bt(b:Expr):Prop:=∀o i,subscripted b false o i=operate [o,i] (getItem o i)
def GW(X:Cx)(r:R2):Prop:=
 ∀(value Uw:Expr)(MC:List (Ul×Obj))(s:Um)(σ:St)(H:Hp)(x y:V)(v u:Uk)(Q:VK),OR X MC σ H s->OW x v->OW y u->r x y H Q->
  subscripted Uw false v u=operate [v,u] (getItem v u)->wpAny (model X.prog X.w) X.A (subscriptTail value Uw v u) (EP X MC σ Q) X.xe s
def GX(X:Cx)(id:String)(r:V->Uv->Hp->VK->Prop):Prop:=
 ∀(MC:List (Ul×Obj))(s:Um)(σ:St)(H:Hp)(x:V)(xs:Uv)(v:Uk)(us:List Uk)(Q:VK),OR X MC σ H s->OW x v->OV xs us->r x xs H Q->
  wpAny (model X.prog X.w) X.A (call (.builtin id) (v::us)) (EP X MC σ Q) X.xe s
section
variable{X:Cx}{a b:Expr}{ta tb:TE}{pos:Pos}
def aB{r:R2}(hr:GW X r)(ha:PE X a ta)(hb:PE X b tb)(hs:Bt b:=by intro _ _;rfl):PE X (.Subscript a b pos) (Iz r ta tb):=by
 refine⟨?_⟩;intro MC s σ H Q I h;exact Subscript_ (Ek ha hb I h fun v u s2 x y H2 I2 rx ry q=>hr a b MC s2 σ H2 x y v u Q I2 rx ry q (hs _ _))
inductive GY(K:ZF)(x:V)(y:V)(H:Hp)(Q:VK):Prop
 |mk(p xs i v:_):x=.ref p->y=.int i->OO K H p xs->oz xs i=some v->Q v H->GY K x y H Q
inductive Es(K:ZF)(x:V)(y:V)(H:Hp)(Q:VK):Prop
 |mk(p xs i v:_):x=.ref p->y=.int i->ON K H p xs->oz xs i=some v->Q v H->Es K x y H Q
inductive GZ(x:V)(y:V)(H:Hp)(Q:VK):Prop
 |mk(z i c:_):x=.str z->y=.int i->z.length<=sizeLine->oz z.cps.toList i=some c->Q (.str ⟨#[c]⟩) H->GZ x y H Q
def aU:GW X (GY X.K):=by
 intro value Uw MC s σ H x y v u Q I rx ry h hs;obtain⟨p,xs,i,z,rfl,rfl,hq,he,q⟩:=h;cases rx;obtain⟨t,rfl⟩:=ry;obtain⟨f',r,pl,hz⟩:=I.list hq;obtain⟨j,h1,h2,h3,h4,h5⟩:=oA he;obtain⟨w,ew,V6⟩:=r.get h2;have hl:=r.length;have hn:=js;have F':EP X MC σ Q w s:=⟨z,H,I,V6,q⟩;by_cases h0:0<=i
 ·have hj:i.toNat=j:=by
   rw[seqIndex_of h0 h5]at h1;exact Lc h1
  exact item_listR pl.isList h0 zo (by rw[hj];simpa using ew) F' hs
 ·have hj:(i+(f'.toArray.size:Int)).toNat=j:=by
   rw[seqIndex_neg zo h4]at h1;rw[K8,<-hl];exact Lc h1
  exact subscriptTail_builtinR (x:=w) pl.isList.typeIs slot_list_getitem.lookup
   (wpAny_getItem_list_neg (Q:=fun r s'=>r=w/\EP X MC σ Q r s') pl.isList zo (by rw[K8]<;>lia) zo (by rw[hj];simpa using ew) ⟨rfl,F'⟩) hs
def aJ:GW X (Es X.K):=by
 intro value Uw MC s σ H x y v u Q I rx ry h hs;obtain⟨p,xs,i,z,rfl,rfl,hq,he,q⟩:=h;cases rx;obtain⟨t,rfl⟩:=ry;obtain⟨f',r,pl,hz⟩:=I.tuple hq;obtain⟨j,h1,h2,h3,h4,h5⟩:=oA he;obtain⟨w,ew,V6⟩:=r.get h2;have hl:=r.length;have hn:=js;have F':EP X MC σ Q w s:=⟨z,H,I,V6,q⟩;exact subscriptTail_builtinR (x:=w) pl.typeIs slot_tuple_getitem.lookup
  (getItem_tuple (j:=j) (Q:=fun r s'=>r=w/\EP X MC σ Q r s') pl zo zo (by rw[K8,<-hl];exact h1) (by simpa using ew) ⟨rfl,F'⟩) hs
def jw:GW X GZ:=by
 intro value Uw MC s σ H x y v u Q I rx ry h hs;obtain⟨z,i,c,rfl,rfl,hz,he,q⟩:=h;obtain⟨t,rfl⟩:=rx;obtain⟨t',rfl⟩:=ry;obtain⟨j,h1,h2,h3,h4,h5⟩:=oA he;have hl:z.cps.toList.length=z.length:=by simp[Str.length]
 rw[hl]at h1 h4 h5;have hn:=js;exact tail_any (typeIs_str s z t) slot_str_getitem.lookup (getItem_str (c:=c) (by
  have e1:decide (i < -(2^63:Int))=false:=b_ zo;have e2:decide (i ≥ 2^63)=false:=b_ zo;rw[e1,e2,Bool.or_false]) (by rw[h1];simpa using h2) ⟨.str ⟨#[c]⟩,H,I.tok _,⟨_,rfl⟩,q⟩) hs
def sV(f':List Uk)(n j:Nat)(u:Uk):Obj.mapSeq (·.setIfInBounds j u) {cls:=.type "list",data:=.seq f'.toArray n}={cls:=.type "list",data:=.seq (f'.set j u).toArray n}:=by
 simp[Obj.mapSeq]
variable{xs:Uv}{p:Ul}{s:Um}{H:Hp}{σ:St}{MC:List (Ul×Obj)}
def OR.lst(I:OR X MC σ H s)(h:H p=some (.lst xs)):
  ∃(f':List Uk)(n:Nat),OV xs f'/\s.heap.get? p=some {cls:=.type "list",data:=.seq f'.toArray n}/\xs.length<=sizeLine:=by
 obtain⟨z,f',n,r,e⟩:=I.hok p _ h;exact⟨f',n,r,e,z⟩
def OR.lstUpd{xs ys:Uv}{f' its':List Uk}{n n':Nat}{f:Obj->Obj}(I:OR X MC σ H s)(h:H p=some (.lst xs))
  (ho:s.heap.get? p=some {cls:=.type "list",data:=.seq f'.toArray n}) (hf:f {cls:=.type "list",data:=.seq f'.toArray n}={cls:=.type "list",data:=.seq its'.toArray n'}) (r:OV ys its') (hz:ys.length<=sizeLine) (t:Nat) :
  OR X MC σ (aM H p (.lst ys)) {s with heap:=s.heap.update p f,toks:=t}:=by
 have e:(s.heap.update p f).get? p=some {cls:=.type "list",data:=.seq its'.toArray n'}:=by
  rw[m_ f ho (by rw[hf]<;>rfl),hf]
 refine I.write (x:=p) (e:=p) (by rw[h];trivial) (.inl rfl) (fun b u hb q=>(Heap.get?_update_other _ _ (Pi hb)).trans q) ⟨_,e⟩ ?_;exact⟨hz,its',n',r,e⟩
inductive Dv(o:V)(i:V)(v:V)(H:Hp)(Q:Hp->Prop):Prop
 |mk(p xs k j:_):o=.ref p->i=.int k->H p=some (.lst xs)->Bs xs.length k=some j->Q (aM H p (.lst (xs.set j v)))->Dv o i v H Q
def fj:GK X Dv:=by
 intro MC s σ H o i v ov iv u Q I ro ri rv h;obtain⟨p,xs,k,j,rfl,rfl,hp,hj,q⟩:=h;cases ro;obtain⟨t,rfl⟩:=ri;obtain⟨f',n,r,ho,hz⟩:=I.lst hp;obtain⟨h1,h2,h3,h4⟩:=vD hj;have hl:=r.length;have hn:=js;have I':OR X MC σ (aM H p (.lst (xs.set j v))) {s with heap:=s.heap.update p (Obj.mapSeq (·.setIfInBounds j u))}:=
  I.lstUpd hp ho (sV f' n j u) (r.set rv j) (by rw[List.length_set];exact hz) s.toks
 by_cases h0:0<=k
 ·have hk:k.toNat=j:=by
   rw[seqIndex_of h0 h4]at h1;exact Lc h1
  exact PySem.W.ki_setAt ho h0 zo (by rw[K8,<-hl];exact h4) (by rw[hk];exact⟨_,I',q⟩)
 ·have hk:(k+(f'.toArray.size:Int)).toNat=j:=by
   rw[seqIndex_neg zo h3]at h1;rw[K8,<-hl];exact Lc h1
  exact PySem.W.ki_setBack ho zo (by rw[K8,<-hl];exact h3) zo (by rw[hk];exact⟨_,I',q⟩)
def oB(lo hi:Option Int)(n:Nat):(sliceBounds lo hi none n).1=((HT.sIx n 0 lo:Nat):Int)/\(sliceBounds lo hi none n).2.1=((HT.sIx n n hi:Nat):Int)/\(sliceBounds lo hi none n).2.2=1:=by
 refine⟨?_,?_,rfl⟩
 ·cases lo with
  |none=>simp[sliceBounds,HT.sIx]
  |some i=>
   simp only[sliceBounds,HT.sIx,Option.getD_none,show(1:Int)>0 by decide,J_];by_cases h:i<0
   ·simp only[h,J_]<;>lia
   ·simp only[h,if_false]<;>lia
 ·cases hi with
  |none=>simp[sliceBounds,HT.sIx]
  |some i=>
   simp only[sliceBounds,HT.sIx,Option.getD_none,show(1:Int)>0 by decide,J_];by_cases h:i<0
   ·simp only[h,J_]<;>lia
   ·simp only[h,if_false]<;>lia
def mT(f':List Uk)(lo hi:Option Int):slicePick f'.toArray lo hi none=((f'.drop (HT.sIx f'.length 0 lo)).take (HT.sIx f'.length f'.length hi-HT.sIx f'.length 0 lo)).toArray:=by
 obtain⟨h1,h2,h3⟩:=oB lo hi f'.toArray.size;unfold slicePick;rw[h1,h2,h3];simp only[sliceRange_one,pick_run,K8]<;>rfl
inductive G0(K:ZF)(x:V)(lo:Option Int)(hi:Option Int)(H:Hp)(Q:VK):Prop
 |mk(a xs:_):x=.ref a->OO K H a xs->(∀p,H p=none->Q (.ref p) (aM H p (.lst (mS xs lo hi))))->G0 K x lo hi H Q
def oC:Jg X (G0 X.K):=by
 intro MC s σ H x v vl vu lo hi sl Q I rx hs pl pu h;obtain⟨a,xs,rfl,hx,q⟩:=h;cases rx;obtain⟨f',r,ht,hz⟩:=I.list hx;have MD:=r.length;refine⟨"list",_,slot_list_getitem.lookup,ht.isList.typeIs,?_⟩;refine wpAny_getItem_list_slice ht.isList hs pl pu .none (by simp) ?_ (by rw[K8]<;>lia);rw[mT,<-MD];refine⟨.ref s.heap.objs.size,_,I.laid (t':=s.toks) (o:=.lst (mS xs lo hi)) (fun b ob q=>KE _ q) (KO _) ?_,rfl,q _ (I.hok.fresh (KO _))⟩;exact⟨Ll (qQ xs lo hi) hz,_,0,(r.drop (HT.sIx xs.length 0 lo)).take (HT.sIx xs.length xs.length hi-HT.sIx xs.length 0 lo),K9 _ rfl⟩
def gE:V->Bool
 |.non=>true
 |.bl _=>true
 |.int _=>true
 |.str _=>true
 |_=>false
def sW:V->V->Bool
 |.non,.non=>true
 |.bl a,.bl b=>a==b
 |.bl a,.int b=>(if a then 1 else 0)==b
 |.int a,.bl b=>a==(if b then 1 else 0)
 |.int a,.int b=>a==b
 |.str a,.str b=>a==b
 |_,_=>false
variable{u v:Uk}{y x:V}{A:Uq}
def Et(ry:OW y u)(rx:OW x v)(fy:gE y=true)(fx:gE x=true):SeqAt.EqAt A s u v (sW y x):=by
 cases y with
 |non=>
  cases ry;cases x with
  |non=>cases rx;exact SeqAt.EqAt.same _
  |bl b=>cases rx;exact SeqAt.EqAt.none_bool b
  |int b=>obtain⟨t,rfl⟩:=rx;exact SeqAt.EqAt.none_int b t
  |str b=>obtain⟨t,rfl⟩:=rx;exact SeqAt.EqAt.none_str b t
  |_=>exact absurd (show false=true from fx) K5
 |bl a=>
  cases ry;cases x with
  |non=>cases rx;exact SeqAt.EqAt.bool_none a
  |bl b=>cases rx;exact SeqAt.EqAt.bool_bool a b
  |int b=>obtain⟨t,rfl⟩:=rx;exact SeqAt.EqAt.bool_int a b t
  |str b=>obtain⟨t,rfl⟩:=rx;exact SeqAt.EqAt.bool_str a b t
  |_=>exact absurd (show false=true from fx) K5
 |int a=>
  obtain⟨t',rfl⟩:=ry;cases x with
  |non=>cases rx;exact SeqAt.EqAt.int_none a t'
  |bl b=>cases rx;exact SeqAt.EqAt.int_bool a t' b
  |int b=>obtain⟨t,rfl⟩:=rx;exact SeqAt.EqAt.int_int a t' b t
  |str b=>obtain⟨t,rfl⟩:=rx;exact SeqAt.EqAt.int_str a t' b t
  |_=>exact absurd (show false=true from fx) K5
 |str a=>
  obtain⟨t',rfl⟩:=ry;cases x with
  |non=>cases rx;exact SeqAt.EqAt.str_none a t'
  |bl b=>cases rx;exact SeqAt.EqAt.str_bool a t' b
  |int b=>obtain⟨t,rfl⟩:=rx;exact SeqAt.EqAt.str_int a t' b t
  |str b=>obtain⟨t,rfl⟩:=rx;exact SeqAt.EqAt.str_str a t' b t
  |_=>exact absurd (show false=true from fx) K5
 |_=>exact absurd (show false=true from fy) K5
def qR(x:V)(u:Uk):Bool:=match u with
 |.none=>sW .non x
 |.bool b=>sW (.bl b) x
 |.int i _=>sW (.int i) x
 |.str z _=>sW (.str z) x
 |_=>false
def sX(r:OW y u)(f:gE y=true):qR x u=sW y x:=by
 cases y with
 |non=>cases r;rfl
 |bl b=>cases r;rfl
 |int i=>obtain⟨t,rfl⟩:=r;rfl
 |str z=>obtain⟨t,rfl⟩:=r;rfl
 |_=>exact absurd (show false=true from f) K5
def iU:∀{xs:Uv}{us:List Uk},OV xs us->xs.all gE=true->us.any (qR x)=xs.any fun y=>sW y x
 |_,_,.nil,_=>rfl
 |y::xs,u::us,.cons r t,f=>by
  rw[RO,Mg]at f;rw[Mw,Mw,sX r f.1,iU t f.2]
def fY(rx:OW x v)(fx:gE x=true):∀{xs:Uv}{us:List Uk},OV xs us->xs.all gE=true->∀u∈us,SeqAt.EqAt A s u v (qR x u)
 |_,_,.nil,_=>fun u hu=>by cases hu
 |y::xs,u::us,.cons r t,f=>fun u' hu=>by
  rw[RO,Mg]at f;rcases KH.mp hu with rfl|hu
  ·rw[sX r f.1];exact Et r rx f.1 fx
  ·exact fY rx fx t f.2 u' hu
def j7(x:V)(xs:Uv):Bool:=xs.any fun y=>sW y x
inductive Jh(K:ZF)(neg:Bool)(x:V)(y:V)(H:Hp)(Q:VK):Prop
 |mk(p xs:_):y=.ref p->(OO K H p xs\/ON K H p xs)->gE x=true->xs.all gE=true->Q (.bl (if neg then !j7 x xs else j7 x xs)) H->Jh K neg x y H Q
def eA:gz X (compareOp .In) (Jh X.K false):=by
 intro MC s σ H x y v u Q I rx ry h;obtain⟨p,xs,rfl,hq,fx,fs,q⟩:=h;cases ry;rcases hq with hq|hq
 ·obtain⟨f',r,pl,hz⟩:=I.list hq;refine SeqAt.in_listAt (qR x) pl.isList (fun w hw=>fY rx fx r fs w (by simpa using hw)) ⟨.bl _,H,I,rfl,?_⟩;rw[show f'.toArray.any (qR x)=f'.any (qR x)by simp,iU r fs];exact q
 ·obtain⟨f',r,pl,hz⟩:=I.tuple hq;refine SeqAt.in_tupleAt (qR x) pl (fun w hw=>fY rx fx r fs w (by simpa using hw)) ⟨.bl _,H,I,rfl,?_⟩;rw[show f'.toArray.any (qR x)=f'.any (qR x)by simp,iU r fs];exact q
def eV:gz X (compareOp .NotIn) (Jh X.K true):=by
 intro MC s σ H x y v u Q I rx ry h;obtain⟨p,xs,rfl,hq,fx,fs,q⟩:=h;cases ry;rcases hq with hq|hq
 ·obtain⟨f',r,pl,hz⟩:=I.list hq;refine SeqAt.notIn_listAt (qR x) pl.isList (fun w hw=>fY rx fx r fs w (by simpa using hw)) ⟨.bl _,H,I,rfl,?_⟩;rw[show f'.toArray.any (qR x)=f'.any (qR x)by simp,iU r fs];exact q
 ·obtain⟨f',r,pl,hz⟩:=I.tuple hq;refine SeqAt.notIn_tupleAt (qR x) pl (fun w hw=>fY rx fx r fs w (by simpa using hw)) ⟨.bl _,H,I,rfl,?_⟩;rw[show f'.toArray.any (qR x)=f'.any (qR x)by simp,iU r fs];exact q
def aL:ff X (.builtin "len") (fun xs H Q=>∃p ys,xs=[.ref p]/\(OO X.K H p ys\/ON X.K H p ys)/\Q (.int ys.length) H):=by
 intro MC s σ H xs us Q I r h;obtain⟨p,ys,rfl,hq,q⟩:=h;obtain⟨u,rfl,rx⟩:=il r;cases rx;have hn:=js;rcases hq with hq|hq
 ·obtain⟨f',r',pl,hz⟩:=I.list hq;have MD:=r'.length;exact Calls.call_len_list pl.isList (by simp only[K8]<;>lia) ⟨.int ys.length,H,I.tok _,⟨s.toks+1,by rw[K8,MD]⟩,q⟩
 ·obtain⟨f',r',pl,hz⟩:=I.tuple hq;have MD:=r'.length;exact len_tuple pl (by simp only[K8]<;>lia) ⟨.int ys.length,H,I.tok _,⟨s.toks+1,by rw[K8,MD]⟩,q⟩
def cn:ff X (.builtin "len") (fun xs H Q=>∃z,xs=[.str z]/\z.length<=sizeLine/\Q (.int z.length) H):=by
 intro MC s σ H xs us Q I r h;obtain⟨z,rfl,hz,q⟩:=h;obtain⟨u,rfl,t,rfl⟩:=il r;have hn:=js;exact len_str zo ⟨.int z.length,H,I.tok _,⟨_,rfl⟩,q⟩
def c9:ff X (.type "list") (fun xs H Q=>∃p ys,xs=[.ref p]/\(OO X.K H p ys\/ON X.K H p ys)/\∀l,H l=none->Q (.ref l) (aM H l (.lst ys))):=by
 intro MC s σ H xs us Q I r h;obtain⟨p,ys,rfl,hq,q⟩:=h;obtain⟨u,rfl,rx⟩:=il r;cases rx;have F':∀(f':List Uk),OV ys f'->ys.length<=sizeLine->∀(h':Heap)(c':Nat),(∀b o',s.heap.get? b=some o'->h'.get? b=some o')->
   h'.get? s.heap.objs.size=some {cls:=.type "list",dict:=none,data:=.seq f'.toArray c',slots:=#[]}->EP X MC σ Q (.ref s.heap.objs.size) {s with heap:=h'}:=fun f' r' hz h' c' kp e=>
  ⟨.ref s.heap.objs.size,_,I.laid (t':=s.toks) kp (KO _) (show O2 X.prog X.w _ h' _ (.lst ys)from⟨hz,f',c',r',e⟩),rfl,q _ (I.hok.fresh (KO _))⟩
 rcases hq with hq|hq
 ·obtain⟨f',r',pl,hz⟩:=I.list hq;have MD:=r'.length;obtain⟨o,ho,hc,n,hd⟩:=pl.isList;exact call_list_seq p (.inl rfl) ho hc hd (fun h' c' kp e=>F' f' r' hz h' c' kp e) (by simp only[K8]<;>lia)
 ·obtain⟨f',r',pl,hz⟩:=I.tuple hq;have MD:=r'.length;obtain⟨o,ho,hc,n,hd⟩:=pl;exact call_list_seq p (.inr rfl) ho hc hd (fun h' c' kp e=>F' f' r' hz h' c' kp e) (by simp only[K8]<;>lia)
def bC:ff X (.type "tuple") (fun xs H Q=>∃p ys,xs=[.ref p]/\((OO X.K H p ys/\∀l,H l=none->Q (.ref l) (aM H l (.tup ys)))\/(ON X.K H p ys/\Q (.ref p) H))):=by
 intro MC s σ H xs us Q I r h;obtain⟨p,ys,rfl,h⟩:=h;obtain⟨u,rfl,rx⟩:=il r;cases rx;rcases h with⟨hq,q⟩|⟨hq,q⟩
 ·obtain⟨f',r',pl,hz⟩:=I.list hq;have MD:=r'.length;refine call_tuple_list pl.isList (fun h' kp=>?_) (by simp only[K8]<;>lia);have I1:OR X MC σ H {s with heap:=h'}:=I.kept (t':=s.toks) kp;have I2:OR X MC σ (aM H h'.objs.size (.tup ys)) {s with heap:=h'.push {cls:=.type "tuple",data:=.seq f'.toArray} }:=
   I1.laid (t':=s.toks) (fun b o e=>KE _ e) (KO _) (show O2 X.prog X.w _ _ _ (.tup ys)from⟨hz,f',r',QA.new _ _⟩)
  exact⟨.ref h'.objs.size,_,I2,rfl,q _ (I1.hok.fresh (KO _))⟩
 ·obtain⟨f',r',pl,hz⟩:=I.tuple hq;exact call_tuple_same pl ⟨.ref p,H,I,rfl,q⟩
def Ji(K:ZF)(T:String)(x:V)(H:Hp):Prop:=match x with
 |.str _=>T="str"
 |.int _=>T="int"
 |.ref p=>(T="list"/\∃xs,OO K H p xs)\/(T="tuple"/\∃o,K.lookup p=some o/\o.cls=.type "tuple"/\o.dict=none) ∨
   (T="dict"/\((∃kvs,H p=some (.dK kvs))\/∃kvs,H p=some (.dT kvs)))\/(T="set"/\∃S n,H p=some (.set S n))
 |_=>False
def yd{T:String}(I:OR X MC σ H s)(r:OW x v)(ty:Ji X.K T x H):
  s.TypeIs v T/\∀a,v=.ref a->∃ob,s.heap.get? a=some ob/\ob.dict=none:=by
 cases x with
 |str z=>
  obtain⟨t,rfl⟩:=r;cases(show T="str" from ty);exact⟨typeIs_str s z t,fun _ e=>nomatch e⟩
 |int i=>
  obtain⟨t,rfl⟩:=r;cases(show T="int" from ty);exact⟨typeIs_int s i t,fun _ e=>nomatch e⟩
 |ref p=>
  cases r;rcases ty with⟨rfl,xs,hq⟩|⟨rfl,o,hk,hc,hd⟩|⟨rfl,hk⟩|⟨rfl,S,n,hk⟩
  ·obtain⟨f',_,pl,_⟩:=I.list hq;refine⟨pl.isList.typeIs,fun a e=>?_⟩;cases e;obtain⟨o,n,e,c,hd,_⟩:=pl;exact⟨o,e,hd⟩
  ·refine⟨⟨o,I.kIn p o hk,hc⟩,fun a e=>?_⟩;cases e;exact⟨o,I.kIn _ o hk,hd⟩
  ·have z:∃o,s.heap.get? p=some o/\o.ExactDict:=by
    rcases hk with⟨kvs,hk⟩|⟨kvs,hk⟩
    ·obtain⟨_,_,_,_,o,_,_,e,ex,_⟩:=I.hok p _ hk;exact⟨o,e,ex⟩
    ·obtain⟨_,_,_,_,o,_,_,e,ex,_⟩:=I.hok p _ hk;exact⟨o,e,ex⟩
   obtain⟨o,e,ex⟩:=z;refine⟨⟨o,e,ex.1⟩,fun a e2=>?_⟩;cases e2;exact⟨o,e,ex.2.1⟩
  ·obtain⟨o,_,_,_,e,ex,_⟩:=I.hok p _ hk;refine⟨⟨o,e,ex.1⟩,fun a e2=>?_⟩;cases e2;exact⟨o,e,ex.2.1⟩
 |_=>exact False.elim ty
def Jj(K:ZF)(T:String)(r:V->Uv->Hp->VK->Prop)(to:TE):TE:=fun σ H Q=>to σ H fun x H1=>Ji K T x H1/\r x [] H1 Q
def Km(K:ZF)(T:String)(r:V->Uv->Hp->VK->Prop)(to:TE)(t:TA):TE:=fun σ H Q=>to σ H fun x H1=>Ji K T x H1/\t σ H1 fun xs H2=>r x xs H2 Q
variable{o e:Expr}{es:List Expr}{to:TE}{t:TA}{name:Str}{L' A':Pos}{T id:String}{r:V->Uv->Hp->VK->Prop}
def Eu(pa:PlainAttrs T)(slot:Slot T name id)(X4:typeOf (.builtin id)=pure (.type "method_descriptor"))(hm:GX X id r)(ho:PE X o to)
  (Vn:attributeBase o name X.env (eval o X.env)=eval o X.env:=by rfl) (Vl:(L'.endLine==A'.line)=true:=by rfl):PE X (.Call (.Attribute o name L') [] [] A') (Jj X.K T r to):=by
 refine⟨?_⟩;intro MC s σ H Q I h;refine wpAny_Call_method0_late Vn Vl (cg (ho MC s σ H _ I h) fun v s1 hZZ=>?_);obtain⟨x,H1,I1,r1,ty,q1⟩:=hZZ;obtain⟨h1,h2⟩:=yd I1 r1 ty;exact⟨T,id,pa,slot,X4,h1,h2,Mh rfl (PySem.evalArgs_none (hm MC s1 σ H1 x [] v [] Q I1 r1 .nil q1))⟩
def ci(pa:PlainAttrs T)(slot:Slot T name id)(X4:typeOf (.builtin id)=pure (.type "method_descriptor"))(hm:GX X id r)(ho:PE X o to)(ha:PA X (e::es) t)
  (Vn:attributeBase o name X.env (eval o X.env)=eval o X.env:=by rfl)
  (Yu:((backTo A' (starEach (e::es) X.env)).all (fun x=>!x.1)&&(backToKw A' (keywordEach [] X.env)).all (fun x=>x.1.isSome)
   && decide ((e::es).length+([]:List Keyword).length+(if([]:List Keyword).isEmpty then 0 else 1)<30))=true:=by rfl)
  (Vl:(L'.endLine==A'.line)=true:=by rfl) (hs:starEach (e::es) X.env=(false,eval e X.env)::starEach es X.env:=by rfl) (VO:(backTo A' (starEach es X.env)).any (·.1)=false:=by rfl) :
  PE X (.Call (.Attribute o name L') (e::es) [] A') (Km X.K T r to t):=by
 refine⟨?_⟩;intro MC s σ H Q I h;refine wpAny_Call_method_late Vn Yu Vl rfl (cg (ho MC s σ H _ I h) fun v s1 hZZ=>?_);obtain⟨x,H1,I1,r1,ty,q1⟩:=hZZ;obtain⟨h1,h2⟩:=yd I1 r1 ty;refine⟨T,id,pa,slot,X4,h1,h2,?_⟩;have hA:=ha A' MC s1 σ H1 _ I1 q1;rw[hs]at hA⊢;refine Mh (by show(false||(backTo A' (starEach es X.env)).any (·.1))=false;rw[VO]<;>rfl) (RW ?_);exact cg hA fun us s2⟨vs,H2,I2,r2,q2⟩=>hm MC s2 σ H2 x vs v us Q I2 r1 r2 q2
end
def Kb(X:Cx)(id:String)(r:V->Uv->Hp->VK->Prop):Prop:=
 ∀(MC:List (Ul×Obj))(s:Um)(σ:St)(H:Hp)(x:V)(xs:Uv)(v:Uk)(us:List Uk)(Q:VK),OR X MC σ H s->OW x v->OV xs us->r x xs H Q->
  wpAny (model X.prog X.w) X.A (call (.builtin id) (v::us)) (EP X MC σ Q) X.xe s
def OV.one:∀{x:V}{us:List Uk},OV [x] us->∃u,us=[u]/\OW x u
 |_,_,.cons r .nil=>⟨_,rfl,r⟩
def OV.zero:∀{us:List Uk},OV [] us->us=[]
 |_,.nil=>rfl
def OV.rep{xs:Uv}{us:List Uk}(h:OV xs us):∀k:Nat,OV (List.replicate k xs).flatten (List.replicate k us).flatten
 |0=>.nil
 |k+1=>by
  rw[o_,o_,LU,LU];exact OV.append h (OV.rep h k)
def nD(f':List Uk):∀(k:Nat)(UB:List Uk),
  List.foldl (fun x1 x2=>x1++x2) UB.toArray (List.replicate k f'.toArray)=(UB++(List.replicate k f').flatten).toArray
 |0,UB=>by simp
 |k+1,UB=>by
  have e:UB.toArray++f'.toArray=(UB++f').toArray:=by simp
  have e2:(UB++f')++(List.replicate k f').flatten=UB++(List.replicate (k+1) f').flatten:=by
   rw[o_,LU,Le]
  rw[<-e2,<-nD f' k (UB++f'),<-e,o_,L_]
section
variable{X:Cx}{MC:List (Ul×Obj)}{σ:St}{H:Hp}{s:Um}{l b:Ul}{xs ys zs:Uv}
def OR.lset{f' its':List Uk}{n:Nat}{f:Array Uk->Array Uk}{t':Nat}(I:OR X MC σ H s)(hH:H l=some (.lst xs))
  (e:s.heap.get? l=some {cls:=.type "list",data:=.seq f'.toArray n}) (hf:f f'.toArray=its'.toArray) (hv:OV ys its') (hz:ys.length<=sizeLine) :
  OR X MC σ (aM H l (.lst ys)) {s with heap:=s.heap.update l (Obj.mapSeq f),toks:=t'}:=by
 have q:=PySem.IsL.update e f;rw[hf]at q;refine I.write (x:=l) (e:=l) (by rw[hH];exact trivial) (.inl rfl) (fun b' u hb hu=>(Heap.get?_update_other s.heap (Obj.mapSeq f) (Pi hb)).trans hu) ⟨_,q⟩ ?_;exact⟨hz,its',_,hv,q⟩
def OR.lnew{f':List Uk}{t':Nat}(I:OR X MC σ H s)(hv:OV ys f')(hz:ys.length<=sizeLine):
  OR X MC σ (aM H s.heap.objs.size (.lst ys)) {s with heap:=s.heap.push {cls:=.type "list",data:=.seq f'.toArray},toks:=t'}:=
 I.laid (fun _ _ q=>KE _ q) (KO _) ⟨hz,f',0,hv,K9 _ rfl⟩
def OR.fresh(I:OR X MC σ H s):H s.heap.objs.size=none:=I.hok.fresh (KO _)
def OR.lstM(I:OR X MC σ H s)(hH:H l=some (.lst xs)):xs.length<=sizeLine/\∃(f':List Uk)(n:Nat),OV xs f'/\xs.length=f'.length/\s.heap.get? l=some {cls:=.type "list",data:=.seq f'.toArray n}:=by
 obtain⟨z,f',n,r,e⟩:=I.hok l _ hH;exact⟨z,f',n,r,r.length,e⟩
def ye(h:n<=sizeLine):Builtin.List.listTooLong n=false:=by
 unfold Builtin.List.listTooLong;exact b_ zo
end
section
variable{X:Cx}
inductive vF(x:V)(vs:Uv)(H:Hp)(Q:VK):Prop
 |mk(l xs y:_):x=.ref l->vs=[y]->H l=some (.lst xs)->xs.length<sizeLine->Q .non (aM H l (.lst (xs++[y])))->vF x vs H Q
def bv:Kb X "list.append" vF:=by
 intro MC s σ H x vs v us Q I rx rv h;obtain⟨l,xs,y,rfl,rfl,hH,hz,q⟩:=h;cases rx;obtain⟨u,rfl,ru⟩:=rv.one;obtain⟨z,f',n,r,hl,e⟩:=I.lstM hH;refine R9 F.slot_list_append ⟨_,e,rfl⟩ F.entry_list_append (F.args_list_append_2 _ _) (PySem.list_append l f'.toArray n u (by rw[K8];lia)) ⟨e,?_⟩;refine⟨.non,_,I.lset (its':=f'++[u]) hH e (by simp) (r.append (.cons ru .nil)) ?_,rfl,q⟩;rw[Kz,List.length_singleton];lia
inductive yf(x:V)(vs:Uv)(H:Hp)(Q:VK):Prop
 |mk(l xs:_):x=.ref l->vs=[]->H l=some (.lst xs)->Q .non (aM H l (.lst []))->yf x vs H Q
def yg:Kb X "list.clear" yf:=by
 intro MC s σ H x vs v us Q I rx rv h;obtain⟨l,xs,rfl,rfl,hH,q⟩:=h;cases rx;have ML:=rv.zero;subst ML;obtain⟨z,f',n,r,hl,e⟩:=I.lstM hH;refine R9 F.slot_list_clear ⟨_,e,rfl⟩ F.entry_list_clear (F.args_list_clear_1 _) (AutoSeq1.list_clear_list_0 l f'.toArray n (by rw[K8];lia)) ⟨e,?_⟩;exact⟨.non,_,I.lset (its':=[]) (ys:=[]) hH e rfl .nil (Lh _),rfl,q⟩
inductive Bu(x:V)(y:V)(H:Hp)(Q:VK):Prop
 |mk(l b xs zs:_):x=.ref l->y=.ref b->H l=some (.lst xs)->H b=some (.lst zs)->xs.length+zs.length<=sizeLine->(∀p,H p=none->Q (.ref p) (aM H p (.lst (xs++zs))))->Bu x y H Q
def dA:gz X (binaryOp .Add) Bu:=by
 intro MC s σ H x y v u Q I rx ry h;obtain⟨l,b,xs,zs,rfl,rfl,hH,hB,hz,q⟩:=h;cases rx;cases ry;obtain⟨z,f',n,r,hl,e⟩:=I.lstM hH;obtain⟨z2,Wz,n2,r2,YO,e2⟩:=I.lstM hB;refine PySem.P.add_list e e2 ?_ (by rw[K8,K8];lia);have ea:f'.toArray++Wz.toArray=(f'++Wz).toArray:=by simp
 rw[ea];exact⟨.ref _,_,I.lnew (t':=s.toks) (r.append r2) (by rw[Kz];lia),rfl,q _ I.fresh⟩
inductive Ev(x:V)(y:V)(H:Hp)(Q:VK):Prop
 |mk(l k xs:_):x=.ref l->y=.int k->H l=some (.lst xs)->-(2^63)<=k->k<2^63->xs.length*k.toNat<=sizeLine->(∀p,H p=none->Q (.ref p) (aM H p (.lst (List.replicate k.toNat xs).flatten)))->Ev x y H Q
def Bv{α:Type}(xs:List α)(k:Nat):(List.replicate k xs).flatten.length=k*xs.length:=by
 induction k with
 |zero=>simp
 |succ k ih=>rw[o_,LU,Kz,ih,Nat.succ_mul,RZ]
def kW:gz X (binaryOp .Mult) Ev:=by
 intro MC s σ H x y v u Q I rx ry h;obtain⟨l,k,xs,rfl,rfl,hH,h1,h2,hz,q⟩:=h;cases rx;obtain⟨t,rfl⟩:=ry;obtain⟨z,f',n,r,hl,e⟩:=I.lstM hH;have MD:f'.toArray.size*k.toNat<=sizeLine:=by rw[K8,<-hl];exact hz
 have hcap:¬f'.toArray.size*k.toNat>(2^63-1) / 8:=by
  have:(sizeLine:Nat)<=(2^63-1) / 8:=by decide
  lia
 have hfit:¬(!Builtin.List.listFitsIndex k)=true:=by
  rw[fitsIndex_both h1 h2];exact K5
 have hlong:¬Builtin.List.listTooLong (f'.toArray.size*k.toNat)=true:=by
  rw[ye MD];exact K5
 have hnew:List.foldl (fun x1 x2=>x1++x2) #[] (List.replicate (if f'.toArray.isEmpty=true then 0 else k.toNat) f'.toArray)=(List.replicate k.toNat f').flatten.toArray:=by
  have f0:∀m:Nat,List.foldl (fun x1 x2=>x1++x2) #[] (List.replicate m f'.toArray)=(List.replicate m f').flatten.toArray:=fun m=>by
   have:=nD f' m [];rw[My]at this;exact this
  rw[f0];cases f' with
  |nil=>simp
  |cons a r'=>rw[e_ (by simp)]
 refine wpAny_binaryOp_repeat_ref (T:="list") (U:="int") zd ⟨_,e,rfl⟩ (fun s'=>typeIs_int s' k t) noFill_list_mul F.fills_int_mul F.slot_int_rmul repeat_list F.slot_int_index.lookup
  (R9 F.slot_int_rmul (typeIs_int s k t) F.entry_int_rmul (F.args_int_rmul_2 _ _) (int___rmul___int_list k t l f'.toArray n)
   ⟨e,rfl,⟨_,e,rfl⟩,R9 F.slot_list_mul ⟨_,e,rfl⟩ F.entry_list_mul (F.args_list_mul_2 _ _) (AutoListH.list___mul___list_int_3 l f'.toArray n k t hfit hcap hlong) ⟨e,?_⟩⟩)
 rw[hnew];exact⟨.ref _,_,I.lnew (t':=s.toks) (r.rep k.toNat) (by rw[Bv,Nat.mul_comm];exact hz),rfl,q _ I.fresh⟩
end
end L2
namespace Att
open PySem PySem.W PySem.Calls PyProof.Rows
variable{h:Heap}{P:Params}
def P2:∀(ns:List Int)(vs:List Uk),WellAll P h vs (ns.map WData.int)->IntsAre vs ns:=by
 intro ns;induction ns with
 |nil=>
  intro vs w;rw[LP]at w;cases w;exact .nil
 |cons n ns ih=>
  intro vs w;rw[K2]at w;cases w with
  |cons a b=>
   cases a;exact .cons _ _ (ih _ b)
variable{n:Nat}
def Q4{l:OpenLaw}(hn:l.most=some n){P:Params}{h:Heap}{args:List WData}{Yk:List Uk}
  (Xp:l.row.toRowW.claim.pre args=true) (hwl:WellAll P h Yk args) :
  ∃a vs ns,Yk=[Value.ref a]/\args=[WData.list (ns.map WData.int)]/\h.get? a=some {cls:=.type "list",data:=.seq vs.toArray}/\IntsAre vs ns/\ns.length<=n:=by
 have hsh:WShape.hasAll [] args [.list .int]=true:=(pre_splitW Xp).1;have hc:l.pre.holds [] {args:=args}=true:=(pre_splitW Xp).2;obtain⟨d,r,rfl,h1,h2⟩:=hasAllW_cons hsh;obtain rfl:=hasAllW_nil h2;obtain⟨xs,rfl,h3⟩:=hasW_list h1;obtain⟨ns,rfl⟩:=items_int h3;have MD:ns.length<=n:=by
  unfold OpenLaw.pre at hc;have h4:(WTm.not (.lt (.lit (.int (n:Int))) (.len (.arg 0)))).holds [] {args:=[.list (ns.map .int)]}=true:=by
   have h4:=(holds_andW hc).1;rw[hn]at h4;exact h4
  have h5:=condW_of h4 (w_not (w_lt w_lit (w_len_list (w_arg rfl))));rw[Ky]at h5;refine Nat.le_of_not_lt fun q=>?_;have q':(n:Int)<((ns.length:Nat):Int):=by lia
  first
   |(rw[a_ q']at h5;exact absurd h5 zd)
   |(simp at h5;lia)
 cases hwl with
 |cons w1 w2=>
  cases w2;cases w1 with
  |list ho WB=>exact⟨_,_,ns,rfl,rfl,ho,P2 ns _ WB,MD⟩
def QY(l:OpenLaw)(args:List WData):l.row.toRowW.claim.post args (.bool true) args=true:=
 postW_of (r:=l.row.toRowW) (X:=(true==true))
  (show WShape.has [] (.bool true) .bool=true by first|rfl|decide|simp[WShape.has,WShape.arms,WShape.armsAll])
  (show(WTm.eq .res (.lit (.bool true))).value [] {args:=args,res:=some (.bool true),after:=args}=some (.bool (true==true))from w_eq_bool (w_res rfl) w_lit) rfl
def attach_call{l:OpenLaw}{n:Nat}{q:Uo}{UX:Us}{XP:(Str->Option Uk)->Heap->Prop}{YP:Up->Heap->Prop}{d:DefRec}
  (hn:l.most=some n) (ZN:d.params.defaults=[])
  (call:∀(w:Up)(s₀ s₁:Um)(mg mb:Str->Option Uk)(fa:Ul)(o:Obj)(pm cd doc:Uk)(a:Ul)(vs:List Uk)(ns:List Int),
   Ground q UX [] XP w s₀ mg mb s₁.heap->YP w s₁.heap->
   s₁.heap.get? fa=some o->o.data=.func (docDef d.name d.params d.body d.scope pm cd doc)->s₁.heap.CodeRec cd d.name->mg d.name=some (.ref fa)->
   s₁.heap.get? a=some {cls:=.type "list",data:=.seq vs.toArray}->IntsAre vs ns->ns.length<=n->s₁.gens=#[]->
   codeAny (model l.prog w) callerA (.call (.ref fa) ⟨[.ref a],[]⟩) (fun r s'=>r=.ok (.ret (.bool true))/\OldK s₁.heap s'.heap/\s'.os=s₁.os/\AllBare s'.gens) s₁) :
  WalkO q UX XP YP l.row.toRowW d [] (fun f vs=>PySem.call f vs):=by
 intro w s₀ s₁ mg mb G Y fa o pm cd doc dV kV ho hd VH hD hmg hg args Yk as Xp hlay hrd hwl hlo;obtain rfl:dV=.none:=Dflts.none hD ZN;obtain rfl:kV=.none:=Dflts.noKw hD;obtain⟨a,vs,ns,rfl,rfl,Yq,WJ,MD⟩:=Q4 hn Xp hwl;refine enter_call (Sg (call w s₀ s₁ mg mb fa o pm cd doc a vs ns G Y ho (fd_plain hd) VH hmg Yq WJ MD hg) fun r s' hq=>?_);obtain⟨rfl,h2,h3,h4⟩:=hq;exact⟨.inl ⟨.bool true,.bool true,[],rfl,fun _=>rfl,.bool true,QY l _,fun _=>⟨List.Pairwise.nil,fun _ hm=>(nomatch hm)⟩⟩,h2,h3,h4⟩
end Att
namespace L2
open PySem PySem.Spec PyProof.Rows
def nE:∀{vs:List Uk}{ns:List Int},IntsAre vs ns->OV (ns.map V.int) vs
 |_,_,.nil=>.nil
 |_,_,.cons n t h=>.cons ⟨t,rfl⟩ (nE h)
def Bw(H:Hp):Prop:=∀b,H b=none\/∃o xs,H b=some (.frz o (.lst xs))
def yh{P:Uo}{w:Up}{K:ZF}{mg mb:Str->Option Uk}{CX:xM}{k:Nat}{fa a:Ul}{fd:Ur}{x:Str}{sp:Sp}{s₁:Um}{vs:List Uk}{ns:List Int}
  (KX:K.In s₁.heap) (hns:s₁.heap.Ns mainGlobals mg) (hb:s₁.heap.Ns builtinsNs mb) (hbb:∀x:Str,x≠"__name__"->mb x=bootBuiltins x) (hlim:s₁.heap.NoLimit) (hg:s₁.gens=#[])
  (ha:s₁.heap.get? a=some {cls:=.type "list",data:=.seq vs.toArray}) (hi:IntsAre vs ns) (hl:ns.length<=sizeLine) (hr:OU k callerA)
  (F:∀base:Heap,K.In base->base.Ns mainGlobals mg->OQ P w K mg base CX k fa fd [x] sp) (hbind:∀(s:Um)(u:Uk),BindsTo s fd ⟨[u],[]⟩ [(x,u)])
  (V_:∀H:Hp,Bw H->OO K H a (ns.map V.int)->sp [.ref a] H (fun v _=>v=.bl true) fun _ _ _=>False)
  (ZR:∀H e s',CX [] H s₁ (fun _ _ _=>False) e s'->False) :
  codeAny (model P w) callerA (.call (.ref fa) ⟨[.ref a],[]⟩) (fun r s'=>r=.ok (.ret (.bool true))/\OldK s₁.heap s'.heap/\s'.os=s₁.os/\AllBare s'.gens) s₁:=by
 have rv:=nE hi;have lenV:=hi.length;have core:∀H:Hp,Bw H->OO K H a (ns.map V.int)->PJ P w H s₁.heap->(∀b,H b≠none->b=a)->(H a≠none->K.lookup a=none)->
   codeAny (model P w) callerA (.call (.ref fa) ⟨[.ref a],[]⟩) (fun r s'=>r=.ok (.ret (.bool true))/\OldK s₁.heap s'.heap/\s'.os=s₁.os/\AllBare s'.gens) s₁:=by
  intro H hO hS hok hA hK;have V3:∀{b:Ul}{o:Obj},s₁.heap.get? b=some o->H b=none->(om s₁.heap H).get? b=some o:=fun e n=>xO e n;have Zg:∀{b:Ul}{o:Obj}{es:Array DictEntry}{ep:Nat},s₁.heap.get? b=some o->o.data=.dict es ep->H b=none:=fun{b o es ep}e d=>by
   cases q:H b with
   |none=>rfl
   |some u=>
    have e':b=a:=hA b (by rw[q];simp);subst e';rw[ha]at e;cases e;have d':Data.seq vs.toArray _=Data.dict es ep:=d;cases d'
  have nsK:∀{b:Ul}{m:Str->Option Uk},s₁.heap.Ns b m->(om s₁.heap H).Ns b m:=fun{b m}⟨o,es,ep,e,d,r⟩=>⟨o,es,ep,V3 e (Zg e d),d,r⟩;have hKb:K.In (om s₁.heap H):=fun b o e=>V3 (KX b o e) (by
   cases q:H b with
   |none=>rfl
   |some u=>
    have e':b=a:=hA b (by rw[q];simp);subst e';rw[hK (by rw[q];simp)]at e;cases e)
  have hM:Mod K mg (om s₁.heap H):=⟨hKb,nsK hns,⟨mb,nsK hb,hbb⟩,let⟨mc,h1,h2⟩:=hlim;⟨mc,nsK h1,h2⟩⟩;have e0:QM P w K mg (om s₁.heap H) callerA [] s₁ H:=⟨rfl,hM,fun b o e=>Bg e,Nat.le_of_eq (wI _ _),trivial,fun b hb=>absurd (show b∈([]:List Ul)from hb) (by simp),hok,.of_eq hg⟩;refine Sg ((F _ hKb (nsK hns)).run callerA [] s₁ H ⟨[.ref a],[]⟩ [.ref a] [.ref a] _ _ hr e0 (hbind s₁ (.ref a)) (.cons rfl .nil) (V_ H hO hS)) fun r s' h=>?_;cases r with
  |error e=>exact(ZR H e s' h).elim
  |ok fl=>
   cases fl with
   |next=>exact False.elim h
   |brk=>exact False.elim h
   |cont=>exact False.elim h
   |ret u=>
    obtain⟨v,H',os,bare,un,hok',r',q⟩:=h;have q':v=.bl true:=q;subst q';obtain rfl:u=Value.bool true:=r';refine⟨rfl,OldK.of_keep fun b o e=>?_,os,bare⟩;cases q:H b with
    |none=>exact un.keep b o e q (by intro z;exact absurd (show b∈([]:List Ul)from z) (by simp)) (by simp)
    |some u=>
     rcases hO b with z|⟨ob,xs,z⟩
     ·rw[q]at z;cases z
     ·have z2:=un.frzs b ob _ z;obtain⟨e1,_⟩:=hok b _ z;obtain⟨e2,_⟩:=hok' b _ z2;rw[e]at e1;cases e1;exact e2
 cases hk:K.lookup a with
 |some o=>
  have e:=KX a o hk;rw[ha]at e;cases e;refine core (fun _=>none) (fun _=>.inl rfl) (.inr ⟨_,vs.toArray,_,hk,rfl,rfl,rfl,by rw[K8,lenV];exact hl,by simpa using rv⟩) (fun b u z=>by have z':(none:Option HO)=some u:=z;cases z') (fun b z=>absurd rfl z) fun z=>absurd rfl z
 |none=>
  refine core (fun b=>if b=a then some (.frz {cls:=.type "list",data:=.seq vs.toArray} (.lst (ns.map V.int)))else none) (fun b=>?_) (.inl (.inr ⟨{cls:=.type "list",data:=.seq vs.toArray},f_ rfl⟩)) (fun b u z=>?_) (fun b z=>?_) fun _=>hk
  ·by_cases hb:b=a
   ·exact .inr ⟨_,_,f_ hb⟩
   ·exact .inl (e_ hb)
  ·by_cases hb:b=a
   ·have z':=(f_ hb).symm.trans z;cases z';subst hb;exact⟨ha,by rw[Ky];exact hl,vs,_,rv,ha⟩
   ·have z':=(e_ hb).symm.trans z;cases z'
  ·by_cases hb:b=a
   ·exact hb
   ·exact absurd (e_ hb) z
def Bx{l:PySem.W.OpenLaw}{n k:Nat}{q:Uo}{UX:Us}{XP:(Str->Option Uk)->Heap->Prop}{YP:Up->Heap->Prop}{d:DefRec}{K:Params->ZF}{CX:Up->xM}{sp:Up->Sp}{x:Str}
  (hn:l.most=some n) (X9:n<=sizeLine) (ZN:d.params.defaults=[]) (hr:OU k callerA)
  (hY:∀(w:Up)(h:Heap),YP w h->(K w.params).In h)
  (F:∀(w:Up)(mg:Str->Option Uk)(fa:Ul)(h:Heap),(K w.params).In h->h.Ns mainGlobals mg->mg d.name=some (.ref fa)->
   ∃fd:Ur,(∀(s:Um)(u:Uk),BindsTo s fd ⟨[u],[]⟩ [(x,u)]) /\
    ∀base:Heap,(K w.params).In base->base.Ns mainGlobals mg->OQ l.prog w (K w.params) mg base (CX w) k fa fd [x] (sp w))
  (V_:∀(w:Up)(H:Hp)(a:Ul)(ns:List Int),ns.length<=n->Bw H->OO (K w.params) H a (ns.map V.int)->sp w [.ref a] H (fun v _=>v=.bl true) fun _ _ _=>False)
  (ZR:∀(w:Up)(H:Hp)(s:Um)(e:Uk)(s':Um),CX w [] H s (fun _ _ _=>False) e s'->False) :
  PySem.W.WalkO q UX XP YP l.row.toRowW d [] (fun f vs=>PySem.call f vs):=by
 refine Att.attach_call hn ZN fun w s₀ s₁ mg mb fa o pm cd doc a vs ns G Y ho hd VH hmg Yq WJ MD hg=>?_;have KX:=hY w _ Y;obtain⟨fd,hb,hF⟩:=F w mg fa _ KX G.T.g hmg;exact yh KX G.T.g G.T.b G.T.builtins G.T.nolimit hg Yq WJ (Ll MD X9) hr hF hb (fun H hO hS=>V_ w H a ns MD hO hS) fun H e s'=>ZR w H s₁ e s'
def yi{l:PySem.W.OpenLaw}{n k:Nat}{q:Uo}{UX:Us}{XP:(Str->Option Uk)->Heap->Prop}{YP:Up->Heap->Prop}{d:DefRec}{K:Params->ZF}{CX:xM}{sp:ZF->Sp}{x:Str}
  (hn:l.most=some n) (X9:n<=sizeLine) (ZN:d.params.defaults=[]) (hr:OU k callerA)
  (hY:∀(w:Up)(h:Heap),YP w h->(K w.params).In h)
  (F:∀(w:Up)(mg:Str->Option Uk)(fa:Ul)(h:Heap),(K w.params).In h->h.Ns mainGlobals mg->mg d.name=some (.ref fa)->
   ∃fd:Ur,(∀(s:Um)(u:Uk),BindsTo s fd ⟨[u],[]⟩ [(x,u)]) /\
    ∀base:Heap,(K w.params).In base->base.Ns mainGlobals mg->OQ l.prog w (K w.params) mg base CX k fa fd [x] (sp (K w.params)))
  (V_:∀(K:ZF)(H:Hp)(a:Ul)(ns:List Int),ns.length<=n->Bw H->OO K H a (ns.map V.int)->sp K [.ref a] H (fun v _=>v=.bl true) fun _ _ _=>False)
  (ZR:∀(H:Hp)(s:Um)(e:Uk)(s':Um),CX [] H s (fun _ _ _=>False) e s'->False) :
  PySem.W.WalkO q UX XP YP l.row.toRowW d [] (fun f vs=>PySem.call f vs):=
 Bx (K:=K) (CX:=fun _=>CX) (sp:=fun w=>sp (K w.params)) hn X9 ZN hr hY F (fun w H a ns h1 h2 h3=>V_ (K w.params) H a ns h1 h2 h3) fun _ H s e s'=>ZR H s e s'
def cu(s:Stmt)(j:Nat):Stmt:=match s with
 |.ClassDef _ _ _ body _ _ _ _ _ _ _=>body.getD j (.Pass ⟨0,0,0,0⟩)
 |_=>.Pass ⟨0,0,0,0⟩
def dv(s:Stmt):Arguments:=match s with
 |.FunctionDef _ a _ _ _ _ _ _ _ _=>a
 |_=>{posonlyargs:=[],args:=[],vararg:=none,kwonlyargs:=[],kw_defaults:=[],kwarg:=none,defaults:=[]}
def cN(s:Stmt):List Stmt:=match s with
 |.FunctionDef _ _ b _ _ _ _ _ _ _=>b
 |_=>[]
def ak(s:Stmt):Scope:=match s with
 |.FunctionDef _ _ _ _ _ _ sc _ _ _=>sc
 |_=>{kind:=.function,names:=[],isGenerator:=false,isCoroutine:=false}
abbrev bQ:xM:=fun _ _ _ _ _ _=>False
abbrev E0:XK:=fun _ _ _=>False
def iV{X:Cx}:jv bQ X E0:=fun _ _ _ _ _ _ _ h=>h.elim
structure O0(K:ZF)(x qual:Str)(st:Stmt)(f:Ul)(fd:Ur):Prop where
 ex:∃(oc:Uk)(od:Option Ul)(kV doc pm:Uk)(an:Option Ul)(MN ct:Uk)(UN:Array (Option Uk)),
  fd=PySem.W.fnOf x qual (dv st) (cN st) (ak st) .none kV doc pm an MN ct/\K.lookup f=some ⟨oc,od,.func fd,UN⟩/\PySem.W.codeIn K MN qual=true
 kp:PySem.W.keepIn K (.ref f)=true
section
variable{P:Uo}{w:Up}{K:ZF}{mg:Str->Option Uk}{base:Heap}
variable{fd:Ur}{f:Ul}{st:Stmt}{x qual:Str}
def O0.ok{N ps:Us}{k:Nat}{sp:Sp}(F:O0 K x qual st f fd)(S:az N ps (ak st))(len:∀vs H Q E,sp vs H Q E->vs.length=ps.length)
  (Vm:∀(MN:Uk)(A:Uq)(outer:List Env)(s:Um)(H:Hp)(vs:Uv)(Q:VK)(E:XK),OU k (A.deeper (envOfC qual (ak st) s.heap.objs.size f MN))->sp vs H Q E->
   ∃t,Qx (sU bQ P w K mg base N qual (ak st) f MN A outer s H E).nox (cN st) t/\t {nx:=fun _ H'=>Q .non H',rt:=Q} (start N vs) H):OQ P w K mg base bQ (k+1) f fd ps sp:=by
 obtain⟨oc,od,kV,doc,pm,an,MN,ct,UN,rfl,lk,VH⟩:=F.ex;refine Ds lk VH S len fun A outer s H vs Q E hr V_=>?_;obtain⟨t,h,q⟩:=Vm MN A outer s H vs Q E hr V_;exact⟨t,h.nox,q⟩
def O0.binds{ps:Us}(F:O0 K x qual st f fd)
  (h:∀(kV doc pm:Uk)(an:Option Ul)(MN ct:Uk)(us:List Uk),us.length=ps.length->bindArgs (PySem.W.fnOf x qual (dv st) (cN st) (ak st) .none kV doc pm an MN ct) ⟨us,[]⟩=pure (ps.zip us)):Pb K fd ps []:=by
 obtain⟨oc,od,kV,doc,pm,an,MN,ct,UN,rfl,lk,VH⟩:=F.ex;exact .all (h kV doc pm an MN ct)
def yj{oc:Uk}{od an:Option Ul}{UN:Array (Option Uk)}{kV doc pm MN ct:Uk}(l:K.lookup f=some ⟨oc,od,.func (PySem.W.fnOf x qual (dv st) (cN st) (ak st) .none kV doc pm an MN ct),UN⟩)
  (c:PySem.W.codeIn K MN qual=true) (k:PySem.W.keepIn K (.ref f)=true):O0 K x qual st f (PySem.W.fnOf x qual (dv st) (cN st) (ak st) .none kV doc pm an MN ct):=⟨⟨oc,od,kV,doc,pm,an,MN,ct,UN,rfl,l,c⟩,k⟩
end
def eo{A:Uq}{k:Nat}(hr:OU k A):A.units+1<cLine:=Nat.lt_of_le_of_lt (Nat.add_le_add_left (by decide:1<=64) _) hr.units
section
variable{X:Cx}
def pv(i:Nat){x:Str}{pos:Pos}(hN:X.N[i]?=some x:=by rfl)(hv:Ix X.env.scope x:=by first|exact Or.inl rfl|exact Or.inr (Or.inl rfl)|exact Or.inr (Or.inr rfl))(hd:(x==("__debug__":Str))=false:=by decide)
  (VH:(x==("__classdict__":Str))=false:=by decide):PE X (.Name x pos) (wK i):=Eb hN hv hd VH
end
section
variable{A B:Prop}
def bP(h:B):if false=true then A else B:=by
 rw[e_ K5];exact h
def fC(h:A):if true=true then A else B:=by
 rw[f_ rfl];exact h
def ce{c A B:Prop} [Decidable c](h1:c->A)(h2:¬c->B):if c then A else B:=by
 by_cases h:c
 ·rw[f_ h];exact h1 h
 ·rw[e_ h];exact h2 h
def OM(H H':Hp):Prop:=∀b o,H b=some o->H' b=some o
def OM.refl(H:Hp):OM H H:=fun _ _ h=>h
variable{H H1 H2:Hp}
def OM.trans(a:OM H H1)(b:OM H1 H2):OM H H2:=fun c o h=>b c o (a c o h)
def OM.free{H H':Hp}(e:OM H H'){l:Ul}(h:H' l=Option.none):H l=Option.none:=by
 cases q:H l with
 |none=>rfl
 |some o=>
  rw[e l o q]at h;cases h
end
def iu(env:Env):∀(names:List (Str×NameKind))(cs:List (Str×Ul)),(∀x∈names,x.2=.free->∃c,env.cells.lookup x.1=some c)->(∀x c,cs.lookup x=some c->env.cells.lookup x=some c)->
  ∃cl,(forIn names cs fun(p:Str×NameKind)(r:List (Str×Ul))=>(if(p.2==NameKind.free)=true then do let c <-cellOf env p.1;pure (ForInStep.yield ((p.1,c)::r))else pure (ForInStep.yield r):Sem (ForInStep (List (Str×Ul)))))=(pure cl:Sem (List (Str×Ul))) /\
   (∀x c,cl.lookup x=some c->env.cells.lookup x=some c)/\(∀x,(∃c,cs.lookup x=some c)->∃c,cl.lookup x=some c)/\∀x∈names,x.2=.free->∃c,cl.lookup x.1=some c
 |[],cs,_,h=>⟨cs,rfl,h,fun _ z=>z,fun _ z=>nomatch z⟩
 |(n,k)::r,cs,hn,h=>by
  by_cases e:k=.free
  ·subst e;obtain⟨c,hc⟩:=hn (n,.free) KB rfl;have h':∀x c',((n,c)::cs).lookup x=some c'->env.cells.lookup x=some c':=fun x c' q=>by
    rw[LQ]at q;cases ex:x==n with
    |true=>
     rw[ex]at q;have:x=n:=by simpa using ex
     subst this;cases q;exact hc
    |false=>rw[ex]at q;exact h x c' q
   obtain⟨cl,e1,e2,e3,e4⟩:=iu env r ((n,c)::cs) (fun x hx=>hn x (KM _ hx)) h';refine⟨cl,?_,e2,fun x⟨c',q⟩=>e3 x ?_,fun x hx hf=>?_⟩
   ·rw[D_];rw[f_ (show(((n,NameKind.free):Str×NameKind).2==NameKind.free)=true from by rfl)];unfold cellOf;rw[hc];exact e1
   ·rw[LQ];cases ex:x==n with
    |true=>exact⟨c,rfl⟩
    |false=>exact⟨c',q⟩
   ·rcases KH.mp hx with z|z
    ·subst z;exact e3 n ⟨c,by rw[LQ];simp⟩
    ·exact e4 x z hf
  ·obtain⟨cl,e1,e2,e3,e4⟩:=iu env r cs (fun x hx=>hn x (KM _ hx)) h;refine⟨cl,?_,e2,e3,fun x hx hf=>?_⟩
   ·rw[D_];rw[e_ (show¬(((n,k):Str×NameKind).2==NameKind.free)=true by simpa using e)];exact e1
   ·rcases KH.mp hx with z|z
    ·subst z;exact absurd hf e
    ·exact e4 x z hf
def sY(hn:∀x∈sc.names,x.2=.free->∃c,env.cells.lookup x.1=some c):
  ∃cl,closureFor sc env=pure cl/\(∀x c,cl.lookup x=some c->env.cells.lookup x=some c)/\∀x∈sc.names,x.2=.free->∃c,cl.lookup x.1=some c:=by
 obtain⟨cl,e1,e2,_,e4⟩:=iu env sc.names [] hn (fun x c z=>by cases z);refine⟨cl,?_,e2,e4⟩;unfold closureFor;exact(d_ (fun(m:Sem (List (Str×Ul)))=>m>>=fun r=>pure r) e1)
def fI:∀{l:List (Str×κ)}{x:Str}{k:κ},l.lookup x=some k->(x,k)∈l
 |[],_,_,h=>by cases h
 |(n,k')::r,x,k,h=>by
  rw[LQ]at h;cases e:x==n with
  |true=>
   rw[e]at h;have:x=n:=by simpa using e
   subst this;cases h;exact KB
  |false=>
   rw[e]at h;exact KM _ (fI h)
def oE(env:Env)(x:Str)(k:NameKind):NameKind:=if(k==NameKind.free&&env.scope.kind==.function&&env.kindOf x==some .cell)=true then .cell else k
def kX:∀{names:List (Str×NameKind)}{x:Str},
  (names.map fun(p:Str×NameKind)=>match p with|(n,k)=>if(k==NameKind.free&&env.scope.kind==.function&&env.kindOf n==some .cell)=true then(n,NameKind.cell)else(n,k)).lookup x=(names.lookup x).map (oE env x)
 |[],x=>rfl
 |(n,k)::r,x=>by
  rw[K2];by_cases e:x=n
  ·subst e;dsimp only;by_cases c:(k==NameKind.free&&env.scope.kind==.function&&env.kindOf x==some .cell)=true
   ·rw[f_ c];have z:oE env x k=.cell:=f_ c;simp[LQ,z]
   ·rw[e_ c];have z:oE env x k=k:=e_ c;simp[LQ,z]
  ·have e':(x==n)=false:=by simpa using e
   dsimp only;rw[LQ (a:=x) (b:=k),e'];show _=(r.lookup x).map (oE env x);rw[<-kX];by_cases c:(k==NameKind.free&&env.scope.kind==.function&&env.kindOf n==some .cell)=true
   ·rw[f_ c,LQ,e']
   ·rw[e_ c,LQ,e']
def kY:(compEnvC sc cl C env).kindOf x=(sc.names.lookup x).map (oE env x):=kX
def wQ(N:Us)(sc0 sc:Scope)(N':Us)(ix:List (Option Nat)):Bool:=
 sc.kind==.function&&ix.length==N'.length &&
 sc.names.all (fun p=>p.2 != .cell&&(p.2 != .free||(sc0.names.lookup p.1==some .cell||sc0.names.lookup p.1==some .free))&&(p.2 != .local||sc.names.lookup p.1==some .local)) &&
 (List.range N'.length).all fun j=>match ix[j]?,N'[j]? with
  |some (some i),some x=>N[i]?==some x&&sc.names.lookup x==some .free
  |_,_=>true
def nF(h:wQ N sc0 sc N' ix=true):
  sc.kind=.function/\ix.length=N'.length/\(∀p∈sc.names,p.2≠.cell)/\(∀p∈sc.names,p.2=.free->sc0.names.lookup p.1=some .cell\/sc0.names.lookup p.1=some .free) /\
   (∀p∈sc.names,p.2=.local->sc.names.lookup p.1=some .local)/\∀(j i:Nat)(x:Str),ix[j]?=some (some i)->N'[j]?=some x->N[i]?=some x/\sc.names.lookup x=some .free:=by
 unfold wQ at h;simp only[Mg,Li,beq_iff_eq,bne_iff_ne,Bool.or_eq_true,ne_eq]at h;obtain⟨⟨⟨h1,h2⟩,h3⟩,h4⟩:=h;refine⟨h1,h2,fun p hp=>(h3 p hp).1.1,fun p hp hf=>?_,fun p hp hl=>?_,fun j i x e1 e2=>?_⟩
 ·rcases(h3 p hp).1.2 with z|z
  ·exact absurd hf z
  ·exact z
 ·rcases(h3 p hp).2 with z|z
  ·exact absurd hl z
  ·exact z
 ·have hj:j<N'.length:=(Kx.mp e2).1;have:=h4 j (LG.mpr hj);rw[e1,e2]at this;simpa using this
def mU(X:Cx)(sc:Scope)(N':Us)(C:Ul)(cl:List (Str×Ul))(s:Um)(H:Hp)(fp:List Ul):Cx:=
 {X with N:=N',s₀:=s,H₀:=H,env:=compEnvC sc cl C X.env,outer:=X.stack,stack:=X.stack,ex:=fp,fn:=fun _=>false,pn:=[],xe:=fun _ _=>False}
def qF(ix:List (Option Nat))(σ:St):St:=ix.map fun o=>match o with|some i=>(σ[i]?).getD none|none=>none
def P7:St->St->Prop
 |[],[]=>True
 |none::r,_::r'=>P7 r r'
 |some v::r,w::r'=>w=some v/\P7 r r'
 |_,_=>False
def P7.spec:∀{a b:St},P7 a b->a.length=b.length/\∀(i:Nat)v,a[i]?=some (some v)->b[i]?=some (some v)
 |[],[],_=>⟨rfl,fun _ _ z=>by simp at z⟩
 |[],_::_,h=>h.elim
 |none::r,[],h=>h.elim
 |some v::r,[],h=>h.elim
 |none::r,w::r',h=>by
  obtain⟨e1,e2⟩:=P7.spec (a:=r) (b:=r') h;refine⟨by simp[e1],fun i v z=>?_⟩;cases i with
  |zero=>simp at z
  |succ i=>simpa using e2 i v (by simpa using z)
 |some u::r,w::r',h=>by
  obtain⟨e0,h⟩:=h;obtain⟨e1,e2⟩:=P7.spec (a:=r) (b:=r') h;refine⟨by simp[e1],fun i v z=>?_⟩;cases i with
  |zero=>simp at z;subst z;simp[e0]
  |succ i=>simpa using e2 i v (by simpa using z)
structure PF(X:Cx)(VW:List Expr)(t:TT):Prop where
 run:∀(MC:List (Ul×Obj))(s:Um)(σ:St)(H:Hp)(Q:Bool->Hp->Prop),OR X MC σ H s->t σ H Q->
  wpAny (model X.prog X.w) X.A (forIn VW true fun c r=>if r=true then do let ok <-isTrue c X.env (eval c X.env);pure (ForInStep.yield ok)else pure (ForInStep.yield r)) (TP X MC σ Q) X.xe s
instance {X:Cx}{VW:List Expr}{t:TT}:CoeFun (PF X VW t) fun _=>∀(MC:List (Ul×Obj))(s:Um)(σ:St)(H:Hp)(Q:Bool->Hp->Prop),OR X MC σ H s->t σ H Q->
  wpAny (model X.prog X.w) X.A (forIn VW true fun c r=>if r=true then do let ok <-isTrue c X.env (eval c X.env);pure (ForInStep.yield ok)else pure (ForInStep.yield r)) (TP X MC σ Q) X.xe s:=⟨PF.run⟩
def G1:TT:=fun _ H Q=>Q true H
def dQ:PF X [] G1:=⟨fun MC s σ H Q I h=>wpAny_tests_nil ⟨H,I,h⟩⟩
def jx(h:PT X c t):PF X [c] t:=⟨fun MC s σ H Q I q=>wpAny_tests_one (h MC s σ H Q I q)⟩
def wR(J:It)(g:TG)(tf:TT)(te:TE)(ix:List (Option Nat))(σ:St)(H1:Hp)(Q:VK):Prop:=∃W:Nat->Nat->Uv->Hp->Prop,(∃m,W 0 m [] H1)/\∀i m ys H,W i m ys H->
 (J.stop i H/\ys.length<=sizeLine/\∀D,H D=none->Q (.ref D) (aM H D (.lst ys))) ∨
 (J.go i H/\ys.length<=sizeLine/\∀x H',J.yld i H x H'->g x (qF ix σ) H' fun σ2 H2=>P7 (qF ix σ) σ2/\tf σ2 H2 fun b H3=>if b=true then te σ2 H3 fun y H4=>∃m',m'<m/\W (i+1) m' (ys++[y]) H4 else ∃m',m'<m/\W (i+1) m' ys H3)
def Jk(wi:TI)(g:TG)(tf:TT)(te:TE)(ix:List (Option Nat)):TE:=fun σ H Q=>wi σ H fun J H1=>wR J g tf te ix σ H1 Q
section
def Ew(I:OR X MC σ H2 s2)(XC:wQ X.N X.env.scope sc N' ix=true)(e2:∀x c,cl.lookup x=some c->X.env.cells.lookup x=some c)(e3:∀x∈sc.names,x.2=.free->∃c,cl.lookup x.1=some c)
  (f2:∀b∈fp,mR X MC H2 b) (fo:∀b∈fp,∃o,s2.heap.get? b=some o) (hC:s2.heap.objs.size<=C):(mU X sc N' C cl s2 H2 fp).Ok:=by
 obtain⟨k1,_,k3,_,_,_⟩:=nF XC;refine⟨I.ok.mod,k1,I.ok.glob,I.ok.blt,hC,fun x y c a b=>I.ok.inj x y c (e2 x c a) (e2 y c b),fun x hx=>?_,fun x c z=>(by cases z),I.ok.hd,I.ok.frames,.inl rfl,fun b hb=>?_,I.bs,Ll I.ok.bsz I.sz,fun b o e hb=>?_,fun b hb hf=>?_,I.stack,I.stkFree⟩
 ·have VE:(compEnvC sc cl C X.env).kindOf x=some .cell\/(compEnvC sc cl C X.env).kindOf x=some .free:=hx;rw[kY]at VE;cases q:sc.names.lookup x with
  |none=>rw[q]at VE;rcases VE with z|z<;>cases z
  |some k=>
   have hm:=fI q;have hf:k=.free:=by
    rw[q]at VE;have nk:=k3 _ hm;cases k with
    |free=>rfl
    |cell=>exact absurd rfl nk
    |_=>rcases VE with z|z<;>(simp[oE]at z)
   exact e3 (x,k) hm hf
 ·obtain⟨o,ho⟩:=fo b hb;exact⟨Lk (Lf (K1 ho) hC),fun x c q=>(f2 b hb).2.2.2.2.1 x c (e2 x c q)⟩
 ·have Ve:b∈fp:=hb;rcases(f2 b Ve).2.2.2.1 with z|z
  ·exact I.ok.noex b o e z
  ·exact absurd (Lf (K1 e) (Ll I.ok.bsz z)) (Mf _)
 ·have Ve:b∈fp:=hb;rcases KH.mp (I.stkSub b hf)with z|z
  ·exact(f2 b Ve).2.1 z
  ·exact(f2 b Ve).2.2.1 z
end
section
structure QP(X:Cx)(MC:List (Ul×Obj))(σ:St)(H:Hp)(s:Um)(C:Ul):Prop where
 inv:OR X MC σ H s
 ns:∃m,s.heap.Ns C m
 free:H C=none
 loc:C≠X.env.locals
 cel:∀x c,X.env.cells.lookup x=some c->c≠C
 abv:X.s₀.heap.objs.size<=C
 pin:∀p∈X.pn++MC,p.1≠C
def QP.gone(L:QP X MC σ H s C)(sb:Heap.SameBut C s.heap h'):OR X MC σ H {s with heap:=h'}:=
 L.inv.turned (it:=C) (t':=s.toks) (fun b o hb e=>(sb.2 b hb).trans e) L.free L.loc (.inr L.abv) L.cel L.pin
def vG(hc:X.calm=true)(XC:wQ X.N X.env.scope sc N' ix=true)(hi:PI X tg G' wi)
  (hg:∀C cl s H fp,PG (mU X sc N' C cl s H fp) tg g) (hf:∀C cl s H fp,PF (mU X sc N' C cl s H fp) VW tf) (he:∀C cl s H fp,PE (mU X sc N' C cl s H fp) Xg te)
  (hs:∀x,foldedSetIterable G' X.env x=pure x) (I:OR X MC σ H s) (h:Jk wi g tf te ix σ H Q)
  (Yv:∀(C D:Ul)(H':Hp)(s':Um),QP X MC σ H' s' C->Q (.ref D) H'->compPost (model X.prog X.w) X.A X.xe use Qf (.ref D) C (.ok .next) s') :
  wpAny (model X.prog X.w) X.A (comprehension (.ListComp Xg [⟨tg,G',VW,0⟩] sc pos) sc X.env A' (newList []) false (eval G' X.env) use) Qf X.xe s:=by
 obtain⟨hk,MD,UY,WK,YA,ZQ⟩:=nF XC;obtain⟨cl,e1,e2,e3⟩:=sY (env:=X.env) (sc:=sc) (fun x hx hf=>I.ok.has x.1 (WK x hx hf));refine wpAny_comprehension_free (use:=use) (cl:=cl) rfl hs e1 hk YA (cg (hi MC s σ H _ I h) fun v s1 h1=>cg h1 fun itv s2 h2=>?_);obtain⟨it,fp,tn,J,H2,e,I2,T,Za,f2,W,⟨m0,w0⟩,Vh⟩:=h2;subst e;refine Sa (wpAny_newFunctionEnv UY (by intro y hy;simp at hy) (fun h₁ Yr Xo=>?_) hk);dsimp only at Yr Xo⊢;generalize hH2:s2.heap.push {cls:=.type "list",dict:=none,data:=.seq ([]:List Uk).toArray}=G2 at Yr Xo⊢;have hCs:G2.objs.size=s2.heap.objs.size+1:=by rw[<-hH2,L9]
 have hDC:s2.heap.objs.size≠G2.objs.size:=by rw[hCs];exact Lk (Mn _)
 have Yx:s2.heap.objs.size<=G2.objs.size:=by rw[hCs];exact Nat.le_succ _
 have U4:∀b,b<s2.heap.objs.size->b≠G2.objs.size:=fun b hb=>by rw[hCs];exact Lk (Nat.lt_succ_of_lt hb)
 have VP:∀b,b<s2.heap.objs.size->b≠s2.heap.objs.size:=fun b hb=>Lk hb;have old:∀b o,s2.heap.get? b=some o->h₁.get? b=some o:=fun b o e=>Xo.extBut b o (U4 b (K1 e)) (KE _ (hH2▸KE _ e));have Xq:h₁.get? s2.heap.objs.size=some {cls:=.type "list",data:=.seq ([]:List Uk).toArray}:=Xo.extBut _ _ hDC (KE _ (hH2▸K9 _ rfl));have fo:∀b∈fp,∃o,s2.heap.get? b=some o:=fun b hb=>let⟨o,ho,_⟩:=T.obj _ _ Za b hb;⟨o,ho⟩;have fD:∀b∈fp,b≠s2.heap.objs.size:=fun b hb=>let⟨o,ho⟩:=fo b hb;VP b (K1 ho);have ok':(mU X sc N' G2.objs.size cl s2 H2 fp).Ok:=Ew I2 XC e2 e3 f2 fo Yx;have HD:H2 s2.heap.objs.size=none:=I2.hok.fresh (KO _);have HC:H2 G2.objs.size=none:=I2.hok.fresh Yx;have I4:OR (mU X sc N' G2.objs.size cl s2 H2 fp) [] (qF ix σ) H2 {s2 with heap:=h₁,toks:=s2.toks+([]:List (Str×Uk)).length}:=by
  refine⟨ok',rfl,I2.bare,Un.kept old,⟨_,Yr,fun j x v a b c=>?_⟩,fun x c q=>?_,HC,fun x c q=>I2.freeC x c (e2 x c q),fun p hp=>(by cases hp),I2.hok.kept old,?_⟩
  ·
   have a':N'[j]?=some x:=a;have b':(ix.map fun o=>match o with|some i=>(σ[i]?).getD none|none=>none)[j]?=some (some v):=b;rw[KZ]at b';cases q:ix[j]? with
   |none=>rw[q]at b';cases b'
   |some o=>
    rw[q]at b';cases o with
    |none=>cases b'
    |some i=>
     obtain⟨n1,n2⟩:=ZQ j i x q a';have b'':(σ[i]?).getD none=some v:=Lc b';have sv:σ[i]?=some (some v):=by
      cases z:σ[i]? with
      |none=>rw[z]at b'';cases b''
      |some y=>rw[z]at b'';exact d_ some b''
     obtain⟨m,hn,hl⟩:=I2.loc;have kx:=WK (x,.free) (fI n2) rfl;obtain⟨u,r,lk⟩:=hl i x v n1 sv (.inr kx);refine⟨u,r,.inr ⟨?_,?_⟩⟩
     ·show(compEnvC sc cl G2.objs.size X.env).kindOf x=some .cell\/(compEnvC sc cl G2.objs.size X.env).kindOf x=some .free;rw[kY,n2];show some (oE X.env x .free)=some .cell\/some (oE X.env x .free)=some .free;unfold oE;split
      ·exact .inl rfl
      ·exact .inr rfl
     ·obtain⟨c1,ZP⟩:=e3 (x,.free) (fI n2) rfl;refine⟨c1,ZP,?_⟩;have hc2:=e2 x c1 ZP;rcases lk with⟨z,_⟩|⟨_,c,XG,hcl⟩
      ·have z':X.env.scope.names.lookup x=some .local:=z;rcases kx with y|y<;>(rw[y]at z';cases z')
      ·rw[hc2]at XG;cases XG;obtain⟨o,ho,hd⟩:=hcl;exact⟨o,old c1 o ho,hd⟩
  ·obtain⟨v,o,ho,hd⟩:=I2.cell x c (e2 x c q);exact⟨v,o,old c o ho,hd⟩
  ·show(ix.map _).length=N'.length;rw[Ky,MD]
 have cellD:∀x c,cl.lookup x=some c->c≠s2.heap.objs.size:=fun x c q z=>by
  obtain⟨v,o,ho,hd⟩:=I2.cell x c (e2 x c q);exact VP c (K1 ho) z
 have loop:∀s₃:Um,s₃={s2 with heap:=h₁,toks:=s2.toks+([]:List (Str×Uk)).length}->
   codeAny (model X.prog X.w) X.A (.compLoop (.ListComp Xg [⟨tg,G',VW,0⟩] sc pos) 0 (.ref it) (.ref s2.heap.objs.size) (compEnvC sc cl G2.objs.size X.env))
    (compPost (model X.prog X.w) X.A X.xe use Qf (.ref s2.heap.objs.size) G2.objs.size) s₃:=by
  rintro s₃ rfl;refine codeAny_loop rfl (fun n s'=>∃i ys H' f' k,OR (mU X sc N' G2.objs.size cl s2 H2 fp) [] (qF ix σ) H' s'/\tn i s'.heap/\(∀b∈fp,H' b=none)/\H' s2.heap.objs.size=none /\
   OV ys f'/\s'.heap.get? s2.heap.objs.size=some {cls:=.type "list",data:=.seq f'.toArray k}/\W i n ys H') ?_ m0
   ⟨0,[],H2,[],_,I4,T.keep _ _ _ Za (fun b _ o e=>old b o e),fun b hb=>(f2 b hb).1,HD,.nil,Xq,w0⟩
  rintro n s5 ⟨i,ys,H5,f',k,I5,YC,fr5,hD5,vv,oD,w5⟩;show wpAny _ X.A ((compTurn (.ListComp Xg [⟨tg,G',VW,0⟩] sc pos) 0 (.ref it) (.ref s2.heap.objs.size) (compEnvC sc cl G2.objs.size X.env)).onRaise (fun x=>do noteFrame x (compEnvC sc cl G2.objs.size X.env);theTreesLotGoes x)) _ _ s5;refine wpAny_noted ?_;rw[compTurn_list];have I5p:OR (mU X sc N' G2.objs.size cl s2 H2 fp) [(s2.heap.objs.size,{cls:=.type "list",data:=.seq f'.toArray k})] (qF ix σ) H5 s5:=I5.pins_of fun p hp=>by
   have Ux:p=(s2.heap.objs.size,{cls:=.type "list",data:=.seq f'.toArray k}):=by simpa using hp
   subst Ux;refine⟨oD,hD5,hDC,fun hb=>?_,fun v z=>(by cases z)⟩;obtain⟨_,o,ho,_⟩:=I2.stack.mem (show s2.heap.objs.size∈wJ X.stack from hb);exact Mf _ (K1 ho)
  have fpk:∀{H':Hp},(∀b∈fp,H' b=none)->∀b∈fp,mR (mU X sc N' G2.objs.size cl s2 H2 fp) [(s2.heap.objs.size,({cls:=.type "list",data:=.seq f'.toArray k}:Obj))] H' b:=fun{H'}hn b hb=>by
   refine⟨hn b hb,(ok'.exf b hb).1,ok'.exfs b hb,.inl hb,(ok'.exf b hb).2,fun p hp=>?_⟩;have Ux:p=(s2.heap.objs.size,({cls:=.type "list",data:=.seq f'.toArray k}:Obj)):=by
    have z:p∈([]:List (Ul×Obj))++[(s2.heap.objs.size,({cls:=.type "list",data:=.seq f'.toArray k}:Obj))]:=hp;simpa using z
   subst Ux;exact(fD b hb).symm
  rcases Vh i n ys H5 w5 with⟨stop,hz,qn⟩|⟨go,hz,step⟩
  ·refine c_ (R1 (c_ (q_ (T.done (mU X sc N' G2.objs.size cl s2 H2 fp) rfl rfl rfl hc i _ s5 (qF ix σ) H5 (fun _ _=>False) I5p (fpk fr5) YC stop) (fun r s6⟨hr,I6⟩=>?_) fun _ _ f=>f.elim)));subst hr;refine i_ ?_;obtain⟨m,hn,_⟩:=I6.loc;have oD6:s6.heap.get? s2.heap.objs.size=some {cls:=.type "list",data:=.seq f'.toArray k}:=(I6.pin (s2.heap.objs.size,{cls:=.type "list",data:=.seq f'.toArray k}) (by show _∈([]:List (Ul×Obj))++_;simp)).1;have u6:Un (wJ X.stack) fp H2 H5 s2.heap s6.heap:=I6.base;have HC5:H5 G2.objs.size=none:=I6.free;refine Yv _ _ (aM H5 s2.heap.objs.size (.lst ys)) s6 ⟨?_,⟨m,hn⟩,by rw[au hDC.symm];exact HC5,(U4 _ I2.lt).symm,fun x c q=>?_,Ll I2.sz Yx,fun p hp=>?_⟩ (qn _ hD5)
   ·refine I2.call' (s':=s6) (ch:=fp) I6.os ?_ ?_ I6.bare fun b hb=>⟨(f2 b hb).2.2.2.1,(f2 b hb).2.1,(f2 b hb).2.2.2.2.1,(f2 b hb).2.2.2.2.2⟩
    ·refine⟨fun b o e n nf nx=>u6.keep b o e n nf nx,fun b o e n nf nx=>u6.slot b o e n nf nx,fun b o e n nx=>?_,fun b o e nx=>u6.there b o e nx,fun b xs e=>?_,fun b o u e=>?_,fun b ps e=>?_⟩
     ·rw[au (VP b (K1 e))];exact u6.free b o e n nx
     ·rw[au (ao e HD)];exact u6.tups b xs e
     ·rw[au (ao e HD)];exact u6.frzs b o u e
     ·rw[au (ao e HD)];exact u6.tbls b ps e
    ·intro b o e;by_cases hb:b=s2.heap.objs.size
     ·subst hb;rw[ae]at e;cases e;exact⟨hz,f',k,vv,oD6⟩
     ·rw[au hb]at e;refine(I6.hok b o e).stay (fun c v XG q=>q) (fun c q=>?_) fun c xs q=>?_
      ·rw[au (ao q hD5)];exact q
      ·rw[au (ao q hD5)];exact q
   ·obtain⟨v,o,ho,hd⟩:=I2.cell x c q;exact U4 c (K1 ho)
   ·exact U4 p.1 (K1 (I2.pin p hp).1)
  ·refine c_ (R1 (c_ (q_ (T.item (mU X sc N' G2.objs.size cl s2 H2 fp) rfl rfl rfl hc i _ s5 (qF ix σ) H5 (fun _ _=>False) I5p (fpk fr5) YC go) (fun r s6⟨u,hr,h6⟩=>?_) fun _ _ f=>f.elim)));subst hr;refine c_ (q_ h6 (fun _ s7 hZZ=>?_) fun _ _ f=>f.elim);obtain⟨x,H7,I7,r7,y7,st7,fr7⟩:=hZZ;have I7':=I7.pinned (fpk fr7) (T.obj _ _ st7);refine c_ (q_ (hg _ _ _ _ _ _ s7 (qF ix σ) H7 x u _ I7' r7 (step x H7 y7)) (fun _ s8 hZZ=>?_) fun _ _ f=>f.elim);obtain⟨σ8,H8,I8,x8,q8⟩:=hZZ;obtain⟨xl,xv⟩:=x8.spec;have XU:∀{σ9:St}{H9:Hp}{s9:Um}{pl:List (Ul×Obj)},(∀p∈fQ fp s7.heap,p∈pl)->OR (mU X sc N' G2.objs.size cl s2 H2 fp) pl σ9 H9 s9->tn (i+1) s9.heap/\∀b∈fp,H9 b=none:=fun{σ9 H9 s9 pl}hp I9=>by
    have pn:∀b o,b∈fp->s7.heap.get? b=some o->s9.heap.get? b=some o/\H9 b=none:=fun b o hb e=>by
     have:=I9.pin (b,o) (K6 _ (hp _ (ir hb e)));exact⟨this.1,this.2.1⟩
    refine⟨T.keep _ _ _ st7 fun b hb o e=>(pn b o hb e).1,fun b hb=>?_⟩;obtain⟨o,e,_⟩:=T.obj _ _ st7 b hb;exact(pn b o hb e).2
   refine c_ (q_ (hf _ _ _ _ _ _ s8 σ8 H8 _ I8 q8) (fun ok s9⟨H9,I9,q9⟩=>?_) fun _ _ f=>f.elim);have pD:∀{σ9:St}{H9:Hp}{s9:Um},OR (mU X sc N' G2.objs.size cl s2 H2 fp) ([(s2.heap.objs.size,({cls:=.type "list",data:=.seq f'.toArray k}:Obj))]++fQ fp s7.heap) σ9 H9 s9->
     s9.heap.get? s2.heap.objs.size=some {cls:=.type "list",data:=.seq f'.toArray k}/\H9 s2.heap.objs.size=none:=fun{σ9 H9 s9}I9=>by
    have:=I9.pin (s2.heap.objs.size,{cls:=.type "list",data:=.seq f'.toArray k}) (K6 _ (LI _ (by simp)));exact⟨this.1,this.2.1⟩
   cases ok with
   |false=>
    obtain⟨m',hm,w9⟩:=(show ∃m',m'<n/\W (i+1) m' ys H9 from by simpa using q9);obtain⟨t9,fr9⟩:=XU (fun p hp=>K6 _ hp) I9;obtain⟨oD9,hD9⟩:=pD I9;refine i_ ⟨rfl,m',hm,i+1,ys,H9,f',k,(I9.pins_of (pins':=[]) fun p hp=>nomatch hp).weak xl xv,t9,fr9,hD9,vv,oD9,w9⟩
   |true=>
    have q9':te σ8 H9 fun y H4=>∃m',m'<n/\W (i+1) m' (ys++[y]) H4:=by simpa using q9
    refine c_ (c_ (q_ (he _ _ _ _ _ _ s9 σ8 H9 _ I9 q9') (fun yv sA hZZ=>?_) fun _ _ f=>f.elim));obtain⟨y,HA,IA,rA,m',hm,wA⟩:=hZZ;obtain⟨oDA,hDA⟩:=pD IA;have hsz:f'.toArray.size<=sizeLine:=by rw[K8,<-vv.length];exact hz
    refine c_ (wpAny_list_append_plain (hsz:=hsz) ⟨_,oDA⟩ fun h9 pl9 sb9=>?_);have IB:OR (mU X sc N' G2.objs.size cl s2 H2 fp) (fQ fp s7.heap) σ8 HA sA:=IA.pins_of fun p hp=>IA.pin p (K6 _ (K6 _ hp));have IC:OR (mU X sc N' G2.objs.size cl s2 H2 fp) (fQ fp s7.heap) σ8 HA {sA with heap:=h9}:=IB.turned (it:=s2.heap.objs.size) (t':=sA.toks) (fun b o hb e=>(sb9.2 b hb).trans e) hDA hDC (.inr (KO _)) (fun x c q=>cellD x c q) fun p hp=>by
     have Ux:p∈fQ fp s7.heap:=by
      have z:p∈([]:List (Ul×Obj))++fQ fp s7.heap:=hp;simpa using z
     exact fD p.1 (nh Ux).1
    obtain⟨t9,fr9⟩:=XU (fun p hp=>hp) IC;obtain⟨k',oD'⟩:=pl9;refine i_ (i_ ⟨rfl,m',hm,i+1,ys++[y],HA,f'++[yv],k',(IC.pins_of (pins':=[]) fun p hp=>nomatch hp).weak xl xv,t9,fr9,hDA,vv.append (.cons rA .nil),?_,wA⟩);show h9.get? s2.heap.objs.size=_;rw[oD'];simp
 exact codeAny_compStart_list (loop _ rfl) (T.self X.A 0 _ _ _ (T.keep _ _ _ Za (fun b _ o e=>old b o e)) (loop _ rfl))
def fk(hc:X.calm=true)(XC:wQ N sc0 sc N' ix=true)(hi:PI X tg G' wi)
  (hg:∀C cl s H fp,PG (mU X sc N' C cl s H fp) tg g) (hf:∀C cl s H fp,PF (mU X sc N' C cl s H fp) VW tf) (he:∀C cl s H fp,PE (mU X sc N' C cl s H fp) Xg te)
  (eN:X.N=N:=by rfl) (eS:X.env.scope=sc0:=by rfl) (hs:∀x,foldedSetIterable G' X.env x=pure x:=by intro _;rfl) :
  PE X (.ListComp Xg [⟨tg,G',VW,0⟩] sc pos) (Jk wi g tf te ix):=by
 refine⟨?_⟩;intro MC s σ H Q I h;subst eN eS;rw[eval_ListComp];refine vG (use:=none) hc XC hi hg hf he hs I h fun C D H' s' L q=>?_;obtain⟨m,hn⟩:=L.ns;exact⟨m,hn,fun h' sb=>⟨.ref D,H',L.gone sb,rfl,q⟩⟩
def Ey(i:Nat)(t:TE):TS:=fun D σ H=>t σ H fun v H1=>D.nx (σ.set i (some v)) H1
def gF(hN:X.N.Nodup)(hiy:X.N[i]?=some y)(hy:X.env.scope.names.lookup y=some .local)(hc:X.calm=true)(XC:wQ N sc0 sc N' ix=true)(hi:PI X tg G' wi)
  (hg:∀C cl s H fp,PG (mU X sc N' C cl s H fp) tg g) (hf:∀C cl s H fp,PF (mU X sc N' C cl s H fp) VW tf) (he:∀C cl s H fp,PE (mU X sc N' C cl s H fp) Xg te)
  (eN:X.N=N:=by rfl) (eS:X.env.scope=sc0:=by rfl) (hs:∀x,foldedSetIterable G' X.env x=pure x:=by intro _;rfl)
  (hsw:swapsWith (.ListComp Xg [⟨tg,G',VW,0⟩] sc pos) (some (.Name y py)) spos.line X.env=pure true:=by rfl) :
  PS X (.Assign [.Name y py] (.ListComp Xg [⟨tg,G',VW,0⟩] sc pos) spos) (Ey i (Jk wi g tf te ix)):=by
 refine⟨?_⟩;intro MC s σ H Dn I h;subst eN eS;rw[exec_Assign_Name_used _ _ _ _ hsw];refine c_ (R1 (c_ ?_));show wpAny _ X.A (do let _ <-comprehension (.ListComp Xg [⟨tg,G',VW,0⟩] sc pos) sc X.env _ (newList []) false (eval G' X.env) (some (assign (.Name y py) X.env))) _ _ s;refine c_ (q_ (vG (use:=some (assign (.Name y py) X.env)) (Qf:=fun _ s'=>SP X MC Dn .next s') hc XC hi hg hf he hs I h fun C D H' s' L q=>?_) (fun _ s' hq=>i_ (i_ hq)) fun _ _ e=>e);show wpAny _ X.A (assign (.Name y py) X.env (.ref D)) _ _ s';refine wpAny_assign_Name (m8 L.inv hN hiy (.inl hy) (v:=.ref D) rfl (fun s1 I1 hsb=>?_) (.inr hy));obtain⟨a,sb,ha⟩:=hsb;have haC:C≠a:=by
  rcases ha with z|z
  ·rw[z];exact L.loc
  ·exact(L.cel y a z).symm
 obtain⟨m,hn⟩:=L.ns;have L1:QP X MC (σ.set i (some (.ref D))) H' s1 C:=⟨I1,⟨m,hn.sameBut sb haC⟩,L.free,L.loc,L.cel,L.abv,L.pin⟩;exact⟨m,hn.sameBut sb haC,fun h' Zb=>⟨_,H',L1.gone Zb,q⟩⟩
end
end L2
namespace L2
open PySem
def Nx(Pv:Nat->Uv->Hp->Prop)(n i:Nat)(ys:Uv)(H:Hp):Prop:=∃m',m'<n-i/\(m'=n-(i+1)/\i+1<=n/\Pv (i+1) ys H)
def Nx.mk(h:i<n)(p:Pv (i+1) ys H):Nx Pv n i ys H:=⟨n-(i+1),zo,rfl,h,p⟩
def eJ(Pv:Nat->Uv->Hp->Prop)(h0:Pv 0 [] H)
  (hl:∀i ys H,i<=xs.length->Pv i ys H->OO K H a xs/\ys.length<=sizeLine)
  (hs:∀i x ys H,xs[i]?=some x->Pv i ys H->g x (qF ix σ) H fun σ2 H2=>P7 (qF ix σ) σ2/\tf σ2 H2 fun b H3=>if b=true then te σ2 H3 fun y H4=>Nx Pv xs.length i (ys++[y]) H4 else Nx Pv xs.length i ys H3)
  (hd:∀ys H,Pv xs.length ys H->∀D,H D=none->Q (.ref D) (aM H D (.lst ys))) :
  wR (Gv K a) g tf te ix σ H Q:=by
 refine⟨fun i m ys H=>m=xs.length-i/\i<=xs.length/\Pv i ys H,⟨xs.length,by simp,Lh _,h0⟩,?_⟩;rintro i m ys H ⟨rfl,hi,p⟩;obtain⟨q,hz⟩:=hl i ys H hi p;by_cases MP:i<xs.length
 ·refine .inr ⟨⟨xs,xs[i],q,by simp[MP]⟩,hz,fun x H' y=>?_⟩;obtain⟨e,y⟩:=y;subst e;exact hs i x ys _ (y xs q) p
 ·have e:i=xs.length:=by lia
  subst e;exact .inl ⟨⟨xs,q,KO _⟩,hz,hd ys H p⟩
def eB{σ:St}{H:Hp}{A B:Hp->Prop}(h:A H):G1 σ H fun b H3=>if b=true then A H3 else B H3:=by
 show if true=true then A H else B H;rw[f_ rfl];exact h
end L2
namespace L2
open PySem PySem.Spec PyProof.Rows
def yk(w:Up)(p:Str×V)(e:DictEntry):Prop:=e.hash=hashStr w p.1/\(∃t,e.key=.str p.1 t)/\OW p.2 e.val
def kg(w:Up)(K:ZF)(a:Ul)(kvs:List (Str×V)):Prop:=
 ∃(es:Array DictEntry)(ep:Nat),K.lookup a=some {cls:=.type "dict",data:=.dict es ep}/\Paired (yk w) kvs es.toList
def qS:∀{kvs:List (Str×V)}{es:List DictEntry},Paired (yk w) kvs es->∀e∈es,∃k,(strKind P w).is k e.key=true/\e.hash=(strKind P w).hash k
 |_,_,.nil,_,h=>nomatch h
 |(x,y)::r,e::es,.cons h t,e',he=>by
  rcases KH.mp he with z|z
  ·subst z;obtain⟨h1,⟨tk,h2⟩,h3⟩:=h;refine⟨x,?_,h1⟩;rw[h2];show Value.isStrOf x (.str x tk)=true;simp[Value.isStrOf]
  ·exact qS t e' z
mutual
inductive Dt(K:ZF)(H:Hp):V->PyData->Prop
 |non:Dt K H .non .none
 |bl (b:Bool):Dt K H (.bl b) (.bool b)
 |int (i:Int):Dt K H (.int i) (.int i)
 |str (x:Str):Dt K H (.str x) (.str x)
 |lst {a:Ul} {xs:Uv} {ds:List PyData}:OO K H a xs->Po K H xs ds->Dt K H (.ref a) (.list ds)
 |tup {a:Ul} {xs:Uv} {ds:List PyData}:ON K H a xs->Po K H xs ds->Dt K H (.ref a) (.tuple ds)
inductive Po(K:ZF)(H:Hp):Uv->List PyData->Prop
 |nil:Po K H [] []
 |cons {v:V} {d:PyData} {vs:Uv} {ds:List PyData}:Dt K H v d->Po K H vs ds->Po K H (v::vs) (d::ds)
end
section
mutual
def Dt.reads(I:OR X MC σ H s):∀{v:V}{d:PyData}{u:Uk},Dt X.K H v d->OW v u->∃as,Reads s.heap u d as
 |_,_,_,.non,r=>by cases r;exact⟨_,.none⟩
 |_,_,_,.bl b,r=>by cases r;exact⟨_,.bool b⟩
 |_,_,_,.int i,r=>by obtain⟨t,rfl⟩:=r;exact⟨_,.int i t⟩
 |_,_,_,.str x,r=>by obtain⟨t,rfl⟩:=r;exact⟨_,.str x t⟩
 |_,_,_,.lst hS hA,r=>by
  cases r;obtain⟨f',rv,⟨o,n,e,c,dd,hd⟩,hz⟩:=I.list hS;obtain⟨as,ha⟩:=Po.reads I hA rv;first
   |exact⟨_,.list e c hd (by simpa using ha)⟩
   |exact⟨_,.list e c dd (by simpa using ha)⟩
 |_,_,_,.tup hS hA,r=>by
  cases r;obtain⟨f',rv,⟨o,e,c,n,hd⟩,hz⟩:=I.tuple hS;obtain⟨as,ha⟩:=Po.reads I hA rv;exact⟨_,.tuple e c hd (by simpa using ha)⟩
def Po.reads(I:OR X MC σ H s):∀{vs:Uv}{ds:List PyData}{us:List Uk},Po X.K H vs ds->OV vs us->∃as,ReadsAll s.heap us ds as
 |_,_,_,.nil,.nil=>⟨_,.nil⟩
 |_,_,_,.cons h t,.cons r rr=>by
  obtain⟨a1,h1⟩:=Dt.reads I h r;obtain⟨a2,h2⟩:=Po.reads I t rr;exact⟨_,.cons h1 h2⟩
end
end
section
inductive Rq(K:ZF)(x:V)(y:V)(H:Hp)(Q:VK):Prop
 |mk(dx dy:_):Dt K H x dx->Dt K H y dy->dx.canLay0=true->dy.canLay0=true->min dx.depth dy.depth<=60->Q (.bl (PyData.eqv dx dy)) H->Rq K x y H Q
inductive Rf(K:ZF)(x:V)(y:V)(H:Hp)(Q:VK):Prop
 |mk(dx dy:_):Dt K H x dx->Dt K H y dy->dx.canLay0=true->dy.canLay0=true->min dx.depth dy.depth<=60->Q (.bl (!PyData.eqv dx dy)) H->Rf K x y H Q
def Rh(hr:OU k X.A):gz X (compareOp .Eq) (Rq X.K):=by
 intro MC s σ H x y v u Q I rx ry h;obtain⟨dx,dy,h1,h2,c1,c2,dp,q⟩:=h;obtain⟨as,ra⟩:=h1.reads I rx;obtain⟨bs,rb⟩:=h2.reads I ry;exact SeqAt.compareEq_reads ra rb c1 c2 (by have:=hr.un;lia) ⟨.bl _,H,I,rfl,q⟩
def PB(hr:OU k X.A):gz X (compareOp .NotEq) (Rf X.K):=by
 intro MC s σ H x y v u Q I rx ry h;obtain⟨dx,dy,h1,h2,c1,c2,dp,q⟩:=h;obtain⟨as,ra⟩:=h1.reads I rx;obtain⟨bs,rb⟩:=h2.reads I ry;exact SeqAt.compareNe_reads ra rb c1 c2 (by have:=hr.un;lia) ⟨.bl _,H,I,rfl,q⟩
end
def Rk(ns:List Int):PyData:=.list (ns.map .int)
section
variable{H:Hp}{K:ZF}
def P8:∀(ns:List Int),Po K H (ns.map V.int) (ns.map PyData.int)
 |[]=>.nil
 |n::r=>.cons (.int n) (P8 r)
def Rp{a:Ul}{ns:List Int}(h:OO K H a (ns.map V.int)):Dt K H (.ref a) (Rk ns):=.lst h (P8 ns)
def P0:∀ns:List Int,PyData.canLayAll0 (ns.map PyData.int)=true
 |[]=>rfl
 |n::r=>by
  show(true&&PyData.canLayAll0 (r.map PyData.int))=true;rw[P0 r];rfl
end
def OR.turnedS{X:Cx}{MC:List (Ul×Obj)}{σ:St}{H H':Hp}{s:Um}{h':Heap}{t':Nat}{ch:List Ul}(I:OR X MC σ H s)(hf:∀b∈ch,mR X MC H b)
  (k:∀b o,b∉ch->s.heap.get? b=some o->h'.get? b=some o) (hH:∀b o,H b=some o->H' b=some o) (hN:∀b,b<s.heap.objs.size->H b=none->H' b=none)
  (new:∀b o,H b=none->H' b=some o->O2 X.prog X.w H' h' b o):OR X MC σ H' {s with heap:=h',toks:=t'}:=by
 refine I.step (g':=s.gens) (d':=s.drawn) (ch:=ch) (fun b hb=>?_) (fun b o _ _ hc e _=>k b o hc e) (fun b o _ _ hc e _=>⟨o.slots,k b o hc e⟩) (fun b o _ e n=>hN b (K1 e) n)
  (fun b o hc e=>⟨o,k b o hc e⟩) (fun b xs e=>hH b _ e) (fun b o u e=>hH b _ e) (fun b ps e=>⟨#[],by rw[hH b _ e];simp⟩) (fun m hm=>?_) (fun b u e=>?_) I.bare
 ·obtain⟨_,f1,_,f3,f4,f5⟩:=hf b hb;exact⟨f3,f1,f4,f5⟩
 ·obtain⟨o,es,ep,ho,r⟩:=hm;exact⟨o,es,ep,k _ o (fun z=>(hf _ z).2.1 rfl) ho,r⟩
 ·cases q:H b with
  |none=>exact new b u q e
  |some v=>
   rw[hH b v q]at e;cases e;refine(I.hok b u q).stay (fun c v hc q'=>k c v (fun z=>?_) q') (fun c q'=>hH c _ q') fun c xs q'=>hH c _ q';have n:=(hf c z).1;rcases hc with rfl|hc
   ·rw[q]at n;cases n
   ·rw[hc]at n;cases n
section
def yl:bootBuiltins "zip"=some (.type "zip"):=by decide +kernel
end
section
def im(hg:Gl X x)(hm:X.mg x=none)(hv:bootBuiltins x=some (.type n))(hn:x≠"__name__":=by decide)(hd:(x==("__debug__":Str))=false:=by decide):PE X (.Name x pos) (tC (.ty n)):=
 Bh hg hm hv rfl hn hd
def nG:∀{kvs:List (Str×V)}{es:List DictEntry},Paired (yk w) kvs es->∃vs:List (Str×Uk),Pairs (strKind P w) es vs/\vs.map (·.1)=kvs.map (·.1)
 |_,_,.nil=>⟨[],.nil,rfl⟩
 |(x,y)::r,e::es,.cons h t=>by
  obtain⟨vs,p,q⟩:=nG (P:=P) t;obtain⟨h1,⟨tk,h2⟩,h3⟩:=h;refine⟨(x,e.val)::vs,.cons ?_ rfl p,by rw[K2,K2,q]⟩;rw[h2];show Value.isStrOf x (.str x tk)=true;simp[Value.isStrOf]
def nI:∀{ks:Us}{us:List Uk},us.length=ks.length->(∀(j:Nat)k u,ks[j]?=some k->us[j]?=some u->(strKind P w).is k u=true)->OV (ks.map V.str) us
 |[],[],_,_=>.nil
 |k::ks,[],h,_=>by cases h
 |[],u::us,h,_=>by cases h
 |k::ks,u::us,h,hv=>by
  refine .cons ?_ (nI (P:=P) (w:=w) (by simpa using h) fun j k' u' a b=>hv (j+1) k' u' (by simpa using a) (by simpa using b));obtain⟨t,e⟩:=Value.isStrOf_shape (hv 0 k u rfl rfl);exact⟨t,e⟩
def mV(hc:X.calm=true):ff X (.type "list") (fun xs H Q=>∃a kvs,xs=[.ref a]/\kg X.w X.K a kvs/\(kvs.map (·.1)).Nodup/\(a==sysModules)=false/\kvs.length<=1000/\∀p,H p=none->Q (.ref p) (aM H p (.lst (kvs.map fun kv=>V.str kv.1)))):=by
 intro MC s σ H xs us Q I r h;obtain⟨a,kvs,rfl,⟨es,ep,hk,hp⟩,nd,lo,hz,q⟩:=h;cases r with
 |cons r0 rr=>
  cases rr;cases r0;have ho:=I.kIn a _ hk;obtain⟨vs,pv,ek⟩:=nG (P:=X.prog) hp;have ZQ:s.heap.DictAt (strKind X.prog X.w) a vs ep:=⟨_,es,ho,⟨rfl,rfl,rfl⟩,rfl,fun e Yb=>qS hp e (by simpa using Yb),pv,by rw[ek];exact nd⟩;have hl:vs.length=kvs.length:=by
   have:=d_ List.length ek;simpa using this
  have sz:(1000:Nat)<=sizeLine:=by decide
  refine PySem.W.kdl_call (PySem.W.kdl_dict (knd:=strKind X.prog X.w) (kvs:=vs) (ep:=ep) lo) (I.ok.hd hc) ZQ zo fun h' tk acc' c' hkeep hD Xq=>?_;have hv:OV ((kvs.map (·.1)).map V.str) acc'.toList:=by
   refine nI (P:=X.prog) (w:=X.w) (by rw[RK,Xq.1,Ky,hl]) fun j k u e1 e2=>?_;obtain⟨k',x',e3,e4⟩:=Xq.2 j u (by rw[<-Array.getElem?_toList];exact e2);rw[<-ek,KZ,e3]at e1;have:k'=k:=by simpa using e1
   rw[<-this];exact e4
  have e0:kvs.map (fun kv=>V.str kv.1)=(kvs.map (·.1)).map V.str:=by rw[Lz];rfl
  refine⟨.ref s.heap.objs.size,aM H s.heap.objs.size (.lst (kvs.map fun kv=>V.str kv.1)),I.laid (t':=tk) hkeep (KO _) ?_,rfl,q _ (I.hok.fresh (KO _))⟩;refine⟨by rw[Ky];lia,acc'.toList,c',by rw[e0];exact hv,?_⟩;rw[hD]
end
end L2
namespace TK
def gA(c:Nat):Bool:=c==32||c==10
def dR(c:Nat):Bool:=[40,41,123,125,91,93,44,59,43,45,38,124,94,60,61].contains c
def jy:Ut->Nat
 |[]=>0
 |[c]=>if dR c then 1 else 0
 |c::d::_=>if(c==60&&d==60)||(c==62&&d==62)then 2 else if dR c then 1 else 0
def run:Ut->Nat
 |[]=>0
 |c::r=>if gA c||jy (c::r) != 0 then 0 else 1+run r
def fJ(c:Nat):jy [c]=if dR c=true then 1 else 0:=rfl
def eW(c d:Nat)(r:Ut):jy (c::d::r)=if((c==60&&d==60)||(c==62&&d==62))=true then 2 else if dR c=true then 1 else 0:=rfl
def cG(c:Nat)(r:Ut):run (c::r)=if(gA c||jy (c::r) != 0)=true then 0 else 1+run r:=by rw[run]
def oF(l:Ut):jy l<=l.length:=by
 match l with
 |[]=>simp[jy]
 |[c]=>rw[fJ];split<;>simp
 |c::d::r=>rw[eW];split<;>(try split)<;>simp
def oG:∀l:Ut,run l<=l.length
 |[]=>by simp[run]
 |c::r=>by
  have:=oG r;rw[cG];split<;>simp<;>lia
def one(l:Ut):Nat:=if jy l=0 then run l else jy l
def kh(h:gA c=false):0<one (c::r):=by
 unfold one;by_cases e:jy (c::r)=0
 ·rw[f_ e];rw[cG,h,e];simp;lia
 ·rw[e_ e];lia
def Ez(l:Ut):one l<=l.length:=by
 unfold one;split
 ·exact oG l
 ·exact oF l
def j8:Nat->Ut->List (Ut)
 |0,_=>[]
 |_,[]=>[]
 |n+1,c::r=>if gA c then j8 n r else(c::r).take (one (c::r))::j8 n ((c::r).drop (one (c::r)))
def iw:∀(n m:Nat)(l:Ut),l.length<=n->l.length<=m->j8 n l=j8 m l
 |0,0,_,_,_=>rfl
 |0,m+1,l,h,_=>by
  have:l=[]:=Mc.mp zo;subst this;rfl
 |n+1,0,l,_,h=>by
  have:l=[]:=Mc.mp zo;subst this;rfl
 |n+1,m+1,[],_,_=>rfl
 |n+1,m+1,c::r,h1,h2=>by
  simp only[KC]at h1 h2;unfold j8;by_cases g:gA c=true
  ·rw[f_ g,f_ g];exact iw n m r zo zo
  ·rw[e_ g,e_ g];have p:=kh (r:=r) (by simpa using g);rw[iw n m _ (by rw[Ls,KC];lia) (by rw[Ls,KC];lia)]
def toks(l:Ut):List (Ut):=j8 l.length l
def qT:toks []=[]:=rfl
def kZ(h:gA c=true):toks (c::r)=toks r:=by
 unfold toks;rw[KC];show(if gA c then j8 r.length r else _)=_;rw[f_ h]
def qU(h:gA c=false):toks (c::r)=(c::r).take (one (c::r))::toks ((c::r).drop (one (c::r))):=by
 unfold toks;rw[KC];show(if gA c then _ else(c::r).take (one (c::r))::j8 r.length ((c::r).drop (one (c::r))))=_;rw[e_ (by rw[h];decide)];have p:=kh (r:=r) h;rw[iw r.length _ _ (by rw[Ls,KC];lia) (KO _)]
structure Tok(t:Ut):Prop where
 cut:∀s:Ut,(s=[]\/∃c r,s=c::r/\gA c=true)->one (t++s)=t.length
 ne:t≠[]
 ng:∀c∈t,gA c=false
def qV(h:Tok t)(hs:s=[]\/∃c r,s=c::r/\gA c=true):toks (t++s)=t::toks s:=by
 cases t with
 |nil=>exact absurd rfl h.ne
 |cons c r=>
  have g:=h.ng c KB;have e:=h.cut s hs;rw[LM]at e⊢;rw[qU g,e];have e1:(c::(r++s)).take (c::r).length=c::r:=by rw[<-LM,List.take_left'];rfl
  have e2:(c::(r++s)).drop (c::r).length=s:=by rw[<-LM,List.drop_left'];rfl
  rw[e1,e2]
def vI:∀(l s:Ut),(s=[]\/∃c r,s=c::r/\gA c=true)->run (l.take (run l)++s)=run l
 |[],s,hs=>by
  rcases hs with rfl|⟨c,r,rfl,g⟩
  ·rfl
  ·show run (c::r)=0;rw[cG,g];simp
 |c::r,s,hs=>by
  by_cases q:(gA c||jy (c::r) != 0)=true
  ·have e:run (c::r)=0:=by rw[cG,f_ q]
   rw[e];rcases hs with rfl|⟨d,r',rfl,g⟩
   ·rfl
   ·show run (d::r')=0;rw[cG,g];simp
  ·have e:run (c::r)=1+run r:=by rw[cG,e_ q]
   rw[e,RZ 1,RH,LM];have ih:=vI r s hs;simp at q;obtain⟨qg,qs⟩:=q;have q2:(gA c||jy (c::(r.take (run r)++s)) != 0)=false:=by
    rw[qg];simp;have sc:dR c=false:=by
     cases r with
     |nil=>
      rw[fJ]at qs;split at qs
      ·cases qs
      ·rename_i nn;simpa using nn
     |cons d r2=>
      rw[eW]at qs;split at qs
      ·cases qs
      ·split at qs
       ·cases qs
       ·rename_i nn;simpa using nn
    cases hh:r.take (run r)++s with
    |nil=>rw[fJ,sc];rfl
    |cons d r2=>
     rw[eW,sc];have nd:((c==60&&d==60)||(c==62&&d==62))=false:=by
      cases r with
      |nil=>
       rw[List.take_nil,My]at hh;rcases hs with z|⟨c2,r3,z,g⟩
       ·rw[z]at hh;cases hh
       ·rw[z]at hh;injection hh with h1 _;subst h1;unfold gA at g;simp at g;rcases g with rfl|rfl<;>simp
      |cons d2 r3=>
       by_cases z0:run (d2::r3)=0
       ·rw[z0,Sb,My]at hh;rcases hs with z|⟨c2,r4,z,g⟩
        ·rw[z]at hh;cases hh
        ·rw[z]at hh;injection hh with h1 _;subst h1;unfold gA at g;simp at g;rcases g with rfl|rfl<;>simp
       ·obtain⟨k,hk⟩:∃k,run (d2::r3)=k+1:=⟨run (d2::r3)-1,zo⟩;rw[hk,RH,LM]at hh;injection hh with h1 _;subst h1;rw[eW]at qs;split at qs
        ·cases qs
        ·rename_i nn;simpa using nn
     rw[nd];rfl
   rw[show run (c::(r.take (run r)++s))=1+run (r.take (run r)++s)by rw[cG,e_ (by rw[q2];decide)],ih,RZ]
def ym:∀(l:Ut),∀c∈l.take (run l),gA c=false
 |[],_,h=>by cases h
 |c::r,d,h=>by
  by_cases q:(gA c||jy (c::r) != 0)=true
  ·rw[cG,f_ q]at h;cases h
  ·rw[cG,e_ q,RZ,RH]at h;rcases KH.mp h with z|z
   ·subst z;simp at q;exact q.1
   ·exact ym r d z
def wS(h:((c==60&&d==60)||(c==62&&d==62))=true):gA c=false/\gA d=false:=by
 simp at h;rcases h with⟨rfl,rfl⟩|⟨rfl,rfl⟩<;>exact⟨rfl,rfl⟩
def wT(h:gA d=true):((c==60&&d==60)||(c==62&&d==62))=false:=by
 unfold gA at h;simp at h;rcases h with rfl|rfl<;>simp
def ki(h:gA c=false):Tok ((c::r).take (one (c::r))):=by
 by_cases e:jy (c::r)=0
 ·have o:one (c::r)=run (c::r):=f_ e;have rp:0<run (c::r):=by rw[<-o];exact kh h
  rw[o];refine⟨fun s hs=>?_,fun z=>?_,ym _⟩
  ·have rc:=vI (c::r) s hs;have s0:jy ((c::r).take (run (c::r))++s)=0:=by
    cases hh:(c::r).take (run (c::r))++s with
    |nil=>rfl
    |cons d r2=>
     rw[hh,cG]at rc;split at rc
     ·lia
     ·rename_i nn;simp at nn;exact nn.2
   unfold one;rw[f_ s0,rc,KG];have:=oG (c::r);lia
  ·have:=d_ List.length z;rw[KG]at this;have:=oG (c::r);simp at*;lia
 ·have o:one (c::r)=jy (c::r):=e_ e;rw[o];have key:(dR c=true/\jy (c::r)=1)\/∃d r2,r=d::r2/\((c==60&&d==60)||(c==62&&d==62))=true/\jy (c::r)=2:=by
   cases r with
   |nil=>
    rw[fJ]at e⊢;split at e
    ·rename_i nn;exact .inl ⟨nn,by rw[f_ nn]⟩
    ·exact absurd rfl e
   |cons d r2=>
    rw[eW]at e⊢;by_cases nn:((c==60&&d==60)||(c==62&&d==62))=true
    ·exact .inr ⟨d,r2,rfl,nn,by rw[f_ nn]⟩
    ·rw[e_ nn]at e⊢;by_cases n2:dR c=true
     ·exact .inl ⟨n2,by rw[f_ n2]⟩
     ·rw[e_ n2]at e;exact absurd rfl e
  rcases key with⟨sc,se⟩|⟨d,r2,rfl,dd,se⟩
  ·rw[se];refine⟨fun s hs=>?_,by simp,fun x hx=>?_⟩
   ·show one (c::s)=1;have:jy (c::s)=1:=by
     rcases hs with rfl|⟨d,r2,rfl,g⟩
     ·rw[fJ,f_ sc]
     ·rw[eW,wT g,e_ zd,f_ sc]
    unfold one;rw[this];rfl
   ·have:x=c:=by simpa using hx
    rw[this];exact h
  ·rw[se];refine⟨fun s hs=>?_,by simp,fun x hx=>?_⟩
   ·show one (c::d::s)=2;have:jy (c::d::s)=2:=by rw[eW,f_ dd]
    unfold one;rw[this];rfl
   ·have VE:x=c\/x=d:=by simpa using hx
    rcases VE with z|z
    ·rw[z];exact h
    ·rw[z];exact(wS dd).2
def jn(sep:Ut):List (Ut)->Ut
 |[]=>[]
 |[t]=>t
 |t::u::r=>t++(sep++jn sep (u::r))
end TK
namespace L2
open PySem PySem.Spec PyProof.Rows
def S(l:Ut):Str:=⟨l.toArray⟩
def aN(l:Ut):(S l).length=l.length:=by show l.toArray.size=_;simp
def Qh:S a=S b↔a=b:=⟨fun h=>by
 have:(S a).cps.toList=(S b).cps.toList:=by rw[h]
 simpa[S]using this,fun h=>by rw[h]⟩
def ij(l:Ut)(lo hi:Option Int):Ut:=(l.drop (HT.sIx l.length 0 lo)).take (HT.sIx l.length l.length hi-HT.sIx l.length 0 lo)
def By(n:Nat)(v:Option Int)(d:Nat)(hd:d<=n):HT.sIx n d v<=n:=by
 cases v with
 |none=>exact hd
 |some i=>
  show(if i<0 then(i+(n:Int)).toNat else min i.toNat n)<=n;split<;>lia
open PySem.Builtin.Str in
def qW(lo hi:Option Int)(n:Nat):strSliceIndices lo hi 1 n=(List.range (HT.sIx n n hi-HT.sIx n 0 lo)).map (HT.sIx n 0 lo+·):=by
 have clip:∀(v:Option Int)(d:Nat),d<=n->(match v with|none=>(d:Int)|some i=>max 0 (min (if i<0 then i+(n:Int)else i) n))=((HT.sIx n d v:Nat):Int):=fun v d hd=>by
  cases v with
  |none=>rfl
  |some i=>
   show max 0 (min (if i<0 then i+(n:Int)else i) (n:Int))=(((if i<0 then(i+(n:Int)).toNat else min i.toNat n:Nat)):Int);by_cases h:i<0
   ·rw[f_ h,f_ h];lia
   ·rw[e_ h,e_ h];lia
 have c1:=clip lo 0 (Lh _);have c2:=clip hi n (KO _);rw[<-sliceRange_one];rw[<-c1,<-c2];unfold strSliceIndices;simp only[show(1:Int)>0 by decide,J_];cases lo<;>cases hi<;>rfl
def k7(l:Ut)(a:Nat):∀k,((List.range k).map (a+·)).filterMap (fun i=>l.toArray[i]?)=(l.drop a).take k
 |0=>by simp
 |k+1=>by
  rw[Mo,KJ,List.filterMap_append,k7 l a k,k_]
  congr 1
  rw[List.getElem?_drop];cases q:l[a+k]? with
  |none=>simp[Md,q]
  |some v=>simp[Md,q]
open PySem.Builtin.Str in
def qX(l:Ut)(lo hi:Option Int):(if((1:Int)==1&&(strSliceIndices lo hi 1 (S l).length).length==(S l).length)=true then S l else⟨((strSliceIndices lo hi 1 (S l).length).filterMap ((S l).cps[·]?)).toArray⟩)=S (ij l lo hi):=by
 rw[aN,qW];have e:((List.range (HT.sIx l.length l.length hi-HT.sIx l.length 0 lo)).map (HT.sIx l.length 0 lo+·)).filterMap ((S l).cps[·]?)=ij l lo hi:=k7 l _ _;rw[e];by_cases c:((1:Int)==1&&((List.range (HT.sIx l.length l.length hi-HT.sIx l.length 0 lo)).map (HT.sIx l.length 0 lo+·)).length==l.length)=true
 ·rw[f_ c];simp at c;have h2:=By l.length hi l.length (KO _);have:ij l lo hi=l:=by
   unfold ij;by_cases z:l.length=0
   ·have:l=[]:=Mc.mp z;subst this;simp
   ·have h0:HT.sIx l.length 0 lo=0:=by lia
    rw[h0,Se,LB zo]
  rw[this]
 ·rw[e_ c];rfl
section
def oH:Jg X (fun x lo hi H Q=>∃l,x=.str (S l)/\l.length<=100000/\Q (.str (S (ij l lo hi))) H):=by
 intro MC s σ H x v vl vu lo hi sl Q I rx hs pl pu h;obtain⟨l,rfl,hz,q⟩:=h;obtain⟨t,rfl⟩:=rx;obtain⟨os,hos,hcs,hds⟩:=id hs;have sz:(100000:Nat)<=sizeLine:=by decide
 have lc:(S (ij l lo hi)).length<=sizeLine:=by
  rw[aN];unfold ij;rw[KG,Ls];lia
 refine⟨"str",_,F.slot_str_getitem.lookup,typeIs_str _ _ _,?_⟩;have F':∀(a b:Option (Int×Tok)),a.map (·.1)=lo->b.map (·.1)=hi->s.heap.IsSlice sl a b none->wpAny (model X.prog X.w) X.A (getItem (.str (S l) t) (.ref sl)) (EP X MC σ Q) X.xe s:=fun a b ea eb hS=>by
  refine wpAny_getItem_str_slice hS rfl ?_;unfold sliceMade slicePicked;rw[ea,eb];refine post_val_or_str ?_;show(if((1:Int)==1&&(Builtin.Str.strSliceIndices lo hi 1 (S l).length).length==(S l).length)=true then S l else⟨((Builtin.Str.strSliceIndices lo hi 1 (S l).length).filterMap ((S l).cps[·]?)).toArray⟩).length<=sizeLine/\∀t' k,EP X MC σ Q (.str (if((1:Int)==1&&(Builtin.Str.strSliceIndices lo hi 1 (S l).length).length==(S l).length)=true then S l else⟨((Builtin.Str.strSliceIndices lo hi 1 (S l).length).filterMap ((S l).cps[·]?)).toArray⟩) t') {s with toks:=k};rw[qX];exact⟨lc,fun t' k=>⟨.str (S (ij l lo hi)),H,I.tok _,⟨t',rfl⟩,q⟩⟩
 cases pl with
 |none=>
  cases pu with
  |none=>exact F' none none rfl rfl ⟨os,hos,hcs,hds⟩
  |int j u=>exact F' none (some (j,u)) rfl rfl ⟨os,hos,hcs,hds⟩
 |int i u0=>
  cases pu with
  |none=>exact F' (some (i,u0)) none rfl rfl ⟨os,hos,hcs,hds⟩
  |int j u=>exact F' (some (i,u0)) (some (j,u)) rfl rfl ⟨os,hos,hcs,hds⟩
def gU(c:Nat)(l:Ut):(!(Builtin.Str.occurrences (S l) (S [c]) 0 (S l).length 1).isEmpty)=decide (c∈l):=by
 rw[LJ,StrLaws.found_iff,H_];constructor
 ·rintro⟨i,hi,e⟩;rw[aN,aN]at hi;have Xd:i<l.length:=by simp at hi;lia
  unfold Builtin.Str.subAt at e;have e':l.toArray.extract i (i+1)=#[c]:=eq_of_beq e;have:(l.drop i).take 1=[c]:=by
   have:=d_ Array.toList e';simpa[List.extract_eq_drop_take]using this
  have hm:c∈(l.drop i).take 1:=by rw[this];simp
  exact List.mem_of_mem_drop (LX hm)
 ·intro h;obtain⟨i,hi,e⟩:=RI h;refine⟨i,by rw[aN,aN];simp;lia,?_⟩;unfold Builtin.Str.subAt;have:l.toArray.extract i (i+1)=#[c]:=by
   apply Array.toList_inj.mp;rw[Array.toList_extract];simp[List.extract_eq_drop_take,Lq hi,e]
  show(l.toArray.extract i (i+1) == #[c])=true;rw[this];exact R0 _
inductive Dw(tb:TE)(σ:St)(Q:VK)(x:V)(H1:Hp):Prop
 |mk(l:_):x=.str (S l)->l.length<=100000->(if l=[]then tb σ H1 Q else Q (.str (S l)) H1)->Dw tb σ Q x H1
def Jl(ta tb:TE):TE:=fun σ H Q=>ta σ H fun x H1=>Dw tb σ Q x H1
def EA{a b:Expr}{j':List Expr}{pos:Pos}{ta tb:TE}(ha:PE X a ta)(hb:PE X (.BoolOp .Or (b::j') pos) tb):PE X (.BoolOp .Or (a::b::j') pos) (Jl ta tb):=by
 refine⟨?_⟩;intro MC s σ H Q I h;refine BoolOp_or (cg (ha MC s σ H _ I h) fun v s1 hZZ=>?_);obtain⟨x,H1,I1,r1,q1⟩:=hZZ;obtain⟨l,rfl,hz,q1⟩:=q1;obtain⟨t,rfl⟩:=r1;refine PySem.P.truthy_str (by rw[aN];lia) ?_;rw[aN];by_cases e:l=[]
 ·subst e;rw[f_ rfl]at q1;exact hb MC _ σ H1 Q (I1.tok _) q1
 ·rw[e_ e]at q1;have:((l.length:Int) != 0)=true:=by
   have:l.length≠0:=fun z=>e (Mc.mp z);simp;exact e
  rw[this];exact⟨.str (S l),H1,I1.tok _,⟨t,rfl⟩,q1⟩
def iX:∀{ys:Us}{us:List Uk},OV (ys.map V.str) us->StrsAre us ys
 |[],_,.nil=>.nil
 |n::r,_,.cons h t=>by
  obtain⟨tk,rfl⟩:=h;exact .cons n tk (iX t)
def yn(sep:Ut)(ts:List (Ut)):Txt.join (S sep) (ts.map S)=S (TK.jn sep ts):=by
 have go:∀(r:List (Ut))(UB:Ut),(r.map S).foldl (fun UB p=>UB++(S sep).cps++p.cps) UB.toArray=(UB++(r.map (sep++·)).flatten).toArray:=by
  intro r;induction r with
  |nil=>intro UB;simp
  |cons t r ih=>
   intro UB;rw[K2,L_];have:UB.toArray++(S sep).cps++(S t).cps=(UB++sep++t).toArray:=by simp[S]
   rw[this,ih];simp
 have fl:∀(t:Ut)(r:List (Ut)),TK.jn sep (t::r)=t++(r.map (sep++·)).flatten:=by
  intro t r;induction r generalizing t with
  |nil=>simp[TK.jn]
  |cons u r ih=>
   show t++(sep++TK.jn sep (u::r))=_;rw[ih u];simp
 cases ts with
 |nil=>rfl
 |cons t r=>
  show(⟨((t::r).map S |>.drop 1).foldl (fun UB p=>UB++(S sep).cps++p.cps) (((t::r).map S).headD Str.empty).cps⟩:Str)=_;rw[fl];have:=go r t;show(⟨(r.map S).foldl (fun UB p=>UB++(S sep).cps++p.cps) t.toArray⟩:Str)=_;rw[this];rfl
def eX:GX X "str.join" (fun x xs H Q=>∃sep a ts,x=.str (S sep)/\xs=[.ref a]/\OO X.K H a (ts.map fun t=>V.str (S t))/\(ts.map List.length).sum+ts.length*sep.length<=100000/\Q (.str (S (TK.jn sep ts))) H):=by
 intro MC s σ H x xs v us Q I rx rv h;obtain⟨sep,a,ts,rfl,rfl,hS,hz,q⟩:=h;obtain⟨t,rfl⟩:=rx;obtain⟨u,rfl,ru⟩:=rv.one;cases ru;obtain⟨f',r,pl,Zq⟩:=I.list hS;have e:(ts.map fun t=>V.str (S t))=(ts.map S).map V.str:=by rw[Lz];rfl
 rw[e]at r;refine join_list pl.isList (ys:=ts.map S) (by simpa using iX r) ?_ fun t' k=>?_
 ·have:((ts.map S).map (·.length)).sum=(ts.map List.length).sum:=by
   rw[Lz]
   congr 1
  rw[this,Ky,aN];lia
 ·rw[yn];exact⟨.str (S (TK.jn sep ts)),H,I.tok _,⟨t',rfl⟩,q⟩
end
def qY(c d:Nat):∀XT:Us,(Str.join ⟨#[c]⟩ XT).length=(Str.join ⟨#[d]⟩ XT).length
 |[]=>rfl
 |[p]=>rfl
 |p::q::r=>by
  have ih:=qY c d (q::r);show(p++⟨#[c]⟩++Str.join ⟨#[c]⟩ (q::r)).cps.size=(p++⟨#[d]⟩++Str.join ⟨#[d]⟩ (q::r)).cps.size;have ih':(Str.join ⟨#[c]⟩ (q::r)).cps.size=(Str.join ⟨#[d]⟩ (q::r)).cps.size:=ih;simp only[Str.cps_append,Array.size_append];rw[ih'];rfl
def yo(x:Str)(c d:Nat):(Txt.replace x ⟨#[c]⟩ ⟨#[d]⟩).length=x.length:=by
 rw[StrLaws.replace_one,qY d c,StrLaws.join_split]
section
def fR:ff X (.builtin "isinstance") (fun xs H Q=>∃x t b,xs=[x,.ty T]/\ju X.K H x t/\PySem.W.kitOne X.K t (.type T)=some b/\Q (.bl b) H):=by
 intro MC s σ H xs us Q I r h;obtain⟨x,t,b,rfl,ty,e,q⟩:=h;cases r with
 |cons r0 rr=>
  cases rr with
  |cons r1 rr=>
   cases rr;cases r1;exact wO I r0 ty e fun tk=>⟨.bl b,H,I.tok _,rfl,q⟩
def yp:gz X (binaryOp .FloorDiv) (rI (fun _ j=>0<j/\j<18446744073709551616) fun i j=>.int (i / j)):=El fun i j _ _ _ _ _ hc q=>by
 have h1:(0:Int)<j:=hc.1;have h2:j<18446744073709551616:=hc.2;refine floordiv_int zo (by rw[G_ i zo];exact q) (.inl (PyProof.noPylong_of_log2 ?_));have h3:j.natAbs≠0:=by lia
 have:j.natAbs.log2<64:=(Nat.log2_lt h3).mpr (by show j.natAbs<2^64;lia);lia
def ID(l:Ut):It:=⟨fun i _=>i<l.length,fun i H y H'=>H'=H/\∃h:i<l.length,y=.str (S [l[i]]),fun i _=>l.length<=i⟩
variable{tg:Expr}{K:ZF}{w:Up}{P:Uo}
def sZ(l:Ut)(t:Tok)(it:Ul):on P w K tg (ID l) [it] it (fun i h=>h.IsStrIter it "str_ascii_iterator" (S l) t i) where
 mem:=by simp
 obj:=fun i h st b hb=>by
  have e:b=it:=by simpa using hb
  subst e;obtain⟨o,e,c,d⟩:=st;exact⟨o,e,fun v z=>by rw[d]at z;cases z⟩
 keep:=fun i h h' st k=>let⟨o,ho,r⟩:=st;⟨o,k it (by simp) o ho,r⟩
 item:=by
  intro X hP hw hK hc i MC s σ H E I hf st hg;subst hP hw hK;have U_:i<l.length:=hg;obtain⟨f0,f1,f2,f3,f4,f5⟩:=hf it (by simp);refine wpAny_pyNext_ascii_item st (c:=l[i]) (by show l.toArray[i]?=_;simp[U_]) fun h' VR sb=>?_;have I1:OR X MC σ H {s with heap:=h',toks:=s.toks+1}:=I.turned (fun b o hb e=>(sb.2 b hb).trans e) f0 f1 f3 f4 f5;obtain⟨o,e,c,d⟩:=id VR;exact⟨_,rfl,qM (s:={s with heap:=h',toks:=s.toks+1}) e c d zd ⟨.str (S [l[i]]),H,I1,⟨_,rfl⟩,⟨rfl,U_,rfl⟩,VR,fun b hb=>(hf b hb).1⟩⟩
 done:=by
  intro X hP hw hK hc i MC s σ H E I hf st hg;subst hP hw hK;have U_:l.length<=i:=hg;obtain⟨f0,f1,f2,f3,f4,f5⟩:=hf it (by simp);exact wpAny_pyNext_ascii_end (I.ok.hd hc) st (by show l.toArray[i]?=_;simp[U_]) fun h' eb=>⟨rfl,I.turned (t':=s.toks) (fun b o hb e=>eb b o hb e) f0 f1 f3 f4 f5⟩
 self:=fun _ _ _ _ _ st h=>wpAny_pyIter_striter_ascii st h
def wU(l:Ut)(t:Tok)(it:Ul):on P w K tg (ID l) [it] it (fun i h=>h.IsStrIter it "str_iterator" (S l) t i) where
 mem:=by simp
 obj:=fun i h st b hb=>by
  have e:b=it:=by simpa using hb
  subst e;obtain⟨o,e,c,d⟩:=st;exact⟨o,e,fun v z=>by rw[d]at z;cases z⟩
 keep:=fun i h h' st k=>let⟨o,ho,r⟩:=st;⟨o,k it (by simp) o ho,r⟩
 item:=by
  intro X hP hw hK hc i MC s σ H E I hf st hg;subst hP hw hK;have U_:i<l.length:=hg;obtain⟨f0,f1,f2,f3,f4,f5⟩:=hf it (by simp);refine wpAny_pyNext_wide_item st (c:=l[i]) (by show l.toArray[i]?=_;simp[U_]) fun h' VR sb=>?_;have I1:OR X MC σ H {s with heap:=h',toks:=s.toks+1}:=I.turned (fun b o hb e=>(sb.2 b hb).trans e) f0 f1 f3 f4 f5;obtain⟨o,e,c,d⟩:=id VR;exact⟨_,rfl,qM (s:={s with heap:=h',toks:=s.toks+1}) e c d zd ⟨.str (S [l[i]]),H,I1,⟨_,rfl⟩,⟨rfl,U_,rfl⟩,VR,fun b hb=>(hf b hb).1⟩⟩
 done:=by
  intro X hP hw hK hc i MC s σ H E I hf st hg;subst hP hw hK;have U_:l.length<=i:=hg;obtain⟨f0,f1,f2,f3,f4,f5⟩:=hf it (by simp);exact wpAny_pyNext_wide_end (I.ok.hd hc) st (by show l.toArray[i]?=_;simp[U_]) fun h' eb=>⟨rfl,I.turned (t':=s.toks) (fun b o hb e=>eb b o hb e) f0 f1 f3 f4 f5⟩
 self:=fun _ _ _ _ _ st h=>wpAny_pyIter_striter_wide st h
inductive Dx(R:It->Hp->Prop)(x:V)(H1:Hp):Prop
 |mk(l:_):x=.str (S l)->R (ID l) H1->Dx R x H1
def Jm(tl:TE):TI:=fun σ H R=>tl σ H fun x H1=>Dx R x H1
def tj{tg l:Expr}{tl:TE}(hl:PE X l tl):PI X tg l (Jm tl):=by
 refine⟨?_⟩;intro MC s σ H R I h;refine cg (hl MC s σ H _ I h) fun v s1 hZZ=>?_;obtain⟨x,H1,I1,r1,q1⟩:=hZZ;obtain⟨l,e,q⟩:=q1;subst e;obtain⟨t,rfl⟩:=r1;have fp:∀b∈[s1.heap.objs.size],mR X MC H1 b:=fun b hb=>by
  have e:b=s1.heap.objs.size:=by simpa using hb
  subst e;exact I1.fpOk (KO _) (I1.hok.fresh (KO _))
 cases ha:(S l).cps.all (· < 128)
 ·exact wpAny_pyIter_wide ha ⟨s1.heap.objs.size,[s1.heap.objs.size],_,_,H1,rfl,I1.kept (t':=s1.toks) fun b o e=>KE _ e,wU l t _,⟨_,K9 _ rfl,rfl,rfl⟩,fp,q⟩
 ·exact wpAny_pyIter_ascii ha ⟨s1.heap.objs.size,[s1.heap.objs.size],_,_,H1,rfl,I1.kept (t':=s1.toks) fun b o e=>KE _ e,sZ l t _,⟨_,K9 _ rfl,rfl,rfl⟩,fp,q⟩
def tq(Pv:Nat->Uv->Hp->Prop)(h0:Pv 0 [] H)
  (hl:∀i ys H,i<=l.length->Pv i ys H->ys.length<=sizeLine)
  (hs:∀i ys H(h:i<l.length),Pv i ys H->g (.str (S [l[i]])) (qF ix σ) H fun σ2 H2=>P7 (qF ix σ) σ2/\tf σ2 H2 fun b H3=>if b=true then te σ2 H3 fun y H4=>Nx Pv l.length i (ys++[y]) H4 else Nx Pv l.length i ys H3)
  (hd:∀ys H,Pv l.length ys H->∀D,H D=none->Q (.ref D) (aM H D (.lst ys))) :
  wR (ID l) g tf te ix σ H Q:=by
 refine⟨fun i m ys H=>m=l.length-i/\i<=l.length/\Pv i ys H,⟨l.length,by simp,Lh _,h0⟩,?_⟩;rintro i m ys H ⟨rfl,hi,p⟩;have hz:=hl i ys H hi p;by_cases MP:i<l.length
 ·refine .inr ⟨MP,hz,fun x H' y=>?_⟩;obtain⟨e,h,y⟩:=y;subst e y;exact hs i ys _ MP p
 ·have e:i=l.length:=by lia
  subst e;exact .inl ⟨KO _,hz,hd ys H p⟩
def fq(hc:X.calm=true):ff X (.builtin "all") (fun xs H Q=>∃(p:Ul)(bs:List Bool),xs=[.ref p]/\OO X.K H p (bs.map V.bl)/\Q (.bl (bs.all id)) H):=by
 intro MC s σ H xs us Q I r h;obtain⟨p,bs,rfl,hS,q⟩:=h;obtain⟨u,rfl,rx⟩:=il r;cases rx;obtain⟨f',rv,pl,hz⟩:=I.list hS;have MD:=rv.length;rw[Ky]at MD;have MM:p≠s.heap.objs.size:=by
  obtain⟨o,ho,_⟩:=pl.isList;exact Lk (K1 ho)
 refine call_all_walk (R_ pl.isList ?_);refine⟨s.heap.objs.size,_,_,_,_,_,fun i=>bs.getD i true,rfl,Walks.list (A:=X.A.in1) (I.ok.hd hc) s.heap.objs.size p MM f'.toArray,⟨⟨_,K9 _ rfl,rfl,rfl⟩,pl.isList.at fun o e=>KE _ e⟩,?_,?_⟩
 ·intro i v s' Q' E' hv hq;have hv':f'[i]?=some v:=by simpa using hv
  have MP:i<f'.length:=(Kx.mp hv').1;have hb:i<bs.length:=by lia
  obtain⟨u,hu,ru⟩:=rv.get (i:=i) (x:=.bl bs[i]) (by simp[hb]);rw[hv']at hu;cases hu;cases ru;refine n_ ?_;have e:bs.getD i true=bs[i]:=by simp[List.getD,hb]
  dsimp only at hq;rw[e]at hq;exact hq
 ·intro h' tk hk;have e:(List.range f'.toArray.size).all (fun i=>bs.getD i true)=bs.all id:=by
   rw[K8,<-MD,LJ,Li,Li];constructor
   ·intro z x hx;obtain⟨i,hi,e⟩:=RI hx;have:=z i (LG.mpr hi);rw[show bs.getD i true=bs[i]by simp[List.getD,hi],e]at this;exact this
   ·intro z i hi;have Xd:=LG.mp hi;rw[show bs.getD i true=bs[i]by simp[List.getD,Xd]];exact z _ (Lo Xd)
  rw[e];exact⟨.bl _,H,I.kept fun b o e=>hk b o (fun z=>absurd (K1 e) (by rw[Lb.mp z];exact Mf _)) (KE _ e),rfl,q⟩
end
section
variable{κ:Type} [DecidableEq κ]
def bq(kvs:List (κ×V))(k:κ):Option V:=(kvs.find? fun kv=>decide (kv.1=k)).map (·.2)
def bz(kvs:List (κ×V))(k:κ)(v:V):List (κ×V):=
 if(kvs.any fun kv=>decide (kv.1=k))=true then kvs.map (fun kv=>if kv.1=k then(kv.1,v)else kv)else kvs++[(k,v)]
def qZ{k:κ}:bq ([]:List (κ×V)) k=none:=rfl
variable{p:κ×V}
def cH{r:List (κ×V)}{k:κ}(e:p.1=k):bq (p::r) k=some p.2:=by simp[bq,Ml,e]
def cz{r:List (κ×V)}{k:κ}(e:¬p.1=k):bq (p::r) k=bq r k:=by simp[bq,Ml,e]
def gG(k:κ):∀kvs:List (κ×V),(kvs.any fun kv=>decide (kv.1=k))=(bq kvs k).isSome
 |[]=>rfl
 |p::r=>by
  rw[Mw];by_cases e:p.1=k
  ·simp only[cH e,a_ e,Bool.true_or,Option.isSome_some]
  ·rw[cz e,b_ e,Bool.false_or];exact gG k r
def rf(k j:κ)(y:V):∀kvs:List (κ×V),bq (kvs.map fun kv=>if kv.1=k then(kv.1,y)else kv) j=(bq kvs j).map fun x=>if j=k then y else x
 |[]=>rfl
 |p::r=>by
  have ih:=rf k j y r;rw[K2];by_cases h:p.1=k
  ·rw[f_ h];by_cases e:p.1=j
   ·rw[cH (p:=(p.1,y)) e,cH e,Mz,f_ (e.symm.trans h)]
   ·rw[cz (p:=(p.1,y)) e,cz e,ih]
  ·rw[e_ h];by_cases e:p.1=j
   ·rw[cH (p:=p) e,cH e,Mz,e_ (fun z=>h (e.trans z))]
   ·rw[cz (p:=p) e,cz e,ih]
def nJ(k j:κ)(y:V):∀kvs:List (κ×V),bq kvs k=none->bq (kvs++[(k,y)]) j=if j=k then some y else bq kvs j
 |[],_=>by
  by_cases e:k=j
  ·rw[f_ e.symm];exact cH (p:=(k,y)) e
  ·rw[e_ (fun z=>e z.symm)];exact cz (p:=(k,y)) e
 |p::r,hn=>by
  rw[LM];have hk:¬p.1=k:=fun z=>by rw[cH z]at hn;cases hn
  rw[cz hk]at hn;have ih:=nJ k j y r hn;by_cases e:p.1=j
  ·rw[cH e,cH e,e_ (fun z=>hk (e.trans z))]
  ·rw[cz e,cz e,ih]
def rh(kvs:List (κ×V))(k j:κ)(y:V):bq (bz kvs k y) j=if j=k then some y else bq kvs j:=by
 unfold bz;by_cases a:(kvs.any fun kv=>decide (kv.1=k))=true
 ·rw[f_ a,rf];rw[gG]at a;by_cases e:j=k
  ·obtain⟨x,hx⟩:=Option.isSome_iff_exists.mp a;rw[f_ e,e,hx,Mz,f_ rfl]
  ·rw[e_ e];cases bq kvs j with
   |none=>rfl
   |some x=>rw[Mz,e_ e]
 ·rw[e_ a];refine nJ k j y kvs ?_;rw[gG]at a;cases q:bq kvs k with
  |none=>rfl
  |some x=>rw[q]at a;exact(a rfl).elim
def gH(kvs:List (κ×V))(k:κ)(v:V):(bz kvs k v).length<=kvs.length+1:=by
 unfold bz;split
 ·rw[Ky];lia
 ·rw[Kz,KC,K3];lia
variable{kvs:List (κ×V)}
def rj{k:κ}(v:V)(h:bq kvs k=none):bz kvs k v=kvs++[(k,v)]:=by
 unfold bz;rw[gG,h];exact e_ zd
variable{u:Option Uk}{o:Option V}
def Pu.isSome_eq(r:Pu o u):o.isSome=u.isSome:=by
 cases o with
 |none=>cases u with
  |none=>rfl
  |some _=>exact(show False from r).elim
 |some _=>cases u with
  |none=>exact(show False from r).elim
  |some _=>rfl
def Pu.getD{d:V}{d':Uk}(r:Pu o u)(rd:OW d d'):OW (o.getD d) (u.getD d'):=by
 cases o with
 |none=>cases u with
  |none=>exact rd
  |some _=>exact(show False from r).elim
 |some _=>cases u with
  |none=>exact(show False from r).elim
  |some _=>exact r
def KV.val{vs:List (κ×Uk)}(r:KV kvs vs)(k:κ):Pu (bq kvs k) (valueAt vs k):=by
 unfold KV at r;induction r with
 |nil=>exact True.intro
 |@cons p q ps qs h t ih=>
  obtain⟨h1,h2⟩:=h;by_cases e:p.1=k
  ·have e':q.1=k:=h1.symm.trans e;have b:valueAt (q::qs) k=some q.2:=by simp[valueAt,Ml,e']
   rw[cH e,b];exact h2
  ·have e':¬q.1=k:=fun z=>e (h1.trans z);have b:valueAt (q::qs) k=valueAt qs k:=by simp[valueAt,Ml,e']
   rw[cz e,b];exact ih
def KV.any{vs:List (κ×Uk)}(r:KV kvs vs)(k:κ):(kvs.any fun kv=>decide (kv.1=k))=vs.any fun kv=>decide (kv.1=k):=by
 unfold KV at r;induction r with
 |nil=>rfl
 |cons h t ih=>rw[Mw,Mw,ih,h.1]
variable{y:V}
def KV.repl{vs:List (κ×Uk)}(r:KV kvs vs)(k:κ){u:Uk}(ry:OW y u):
  KV (kvs.map fun kv=>if kv.1=k then(kv.1,y)else kv) (vs.map fun kv=>if kv.1=k then(kv.1,u)else kv):=by
 unfold KV at r⊢;induction r with
 |nil=>exact .nil
 |@cons p q ps qs h t ih=>
  rw[K2,K2];refine .cons ?_ ih;obtain⟨h1,h2⟩:=h;by_cases e:p.1=k
  ·rw[f_ e,f_ (h1.symm.trans e)];exact⟨h1,ry⟩
  ·rw[e_ e,e_ (fun z=>e (h1.trans z))];exact⟨h1,h2⟩
def KV.put{vs:List (κ×Uk)}(r:KV kvs vs)(k:κ){u:Uk}(ry:OW y u):KV (bz kvs k y) (stored vs k u):=by
 unfold bz stored;rw[r.any k];by_cases e:(vs.any fun kv=>decide (kv.1=k))=true
 ·rw[f_ e,f_ e];exact r.repl k ry
 ·rw[e_ e,e_ e];exact Paired.snoc r ⟨rfl,ry⟩
def KV.length{vs:List (κ×Uk)}(r:KV kvs vs):kvs.length=vs.length:=Paired.length r
end
section
variable{u:Uk}{w:Up}{P:Uo}
def k9{k:cQ}(r:OW (kV k) u):(cy P w).is k u=true:=by
 cases k with
 |inl i=>obtain⟨t,e⟩:=(show ∃t,u=Value.int i t from r);subst e;exact qJ P w i t
 |inr x=>obtain⟨t,e⟩:=(show ∃t,u=Value.str x t from r);subst e;exact qK P w x t
def nK:∀{ks:List cQ}{us:List Uk},OV (ks.map kV) us->ItemsAre (cy P w) ks us
 |[],_,r=>by rw[LP]at r;cases r;exact .nil
 |k::ks,_,r=>by
  rw[K2]at r;cases r with
  |cons h t=>exact .cons (k9 h) (nK t)
abbrev KT(H:Hp):List (List cQ×V)->List (List cQ×Ul×Uk)->Prop:=Paired fun p q=>p.1=q.1/\H q.2.1=some (.tup (p.1.map kV))/\OW p.2 q.2.2
variable{xs:List (List cQ×Ul×Uk)}{kvs:List (List cQ×V)}{H:Hp}
def KT.val(r:KT H kvs xs)(k:List cQ):Pu (bq kvs k) ((atKey xs k).map (·.2)):=by
 induction r with
 |nil=>exact True.intro
 |@cons p q ps qs h t ih=>
  obtain⟨h1,_,h2⟩:=h;by_cases e:p.1=k
  ·have e':q.1=k:=h1.symm.trans e;have b:atKey (q::qs) k=some q.2:=by simp[atKey,Ml,e']
   rw[cH e,b];exact h2
  ·have e':¬q.1=k:=fun z=>e (h1.trans z);have b:atKey (q::qs) k=atKey qs k:=by simp[atKey,Ml,e']
   rw[cz e,b];exact ih
variable{y:V}
def KT.repl(r:KT H kvs xs)(k:List cQ)(ry:OW y u):
  KT H (kvs.map fun kv=>if kv.1=k then(kv.1,y)else kv) (xs.map (putAt k u)):=by
 induction r with
 |nil=>exact .nil
 |@cons p q ps qs h t ih=>
  rw[K2,K2];refine .cons ?_ ih;obtain⟨h1,h2,h3⟩:=h;unfold putAt;by_cases e:p.1=k
  ·rw[f_ e,f_ (h1.symm.trans e)];exact⟨h1,h2,ry⟩
  ·rw[e_ e,e_ (fun z=>e (h1.trans z))];exact⟨h1,h2,h3⟩
def KT.put(r:KT H kvs xs)(k:List cQ){b:Ul}(hb:H b=some (.tup (k.map kV)))(ry:OW y u):
  KT H (bz kvs k y) (storedH xs k b u):=by
 have e:(kvs.any fun kv=>decide (kv.1=k))=(atKey xs k).isSome:=by
  rw[gG,(r.val k).isSome_eq,RS]
 unfold bz storedH;rw[e];by_cases q:(atKey xs k).isSome=true
 ·rw[f_ q,f_ q];exact r.repl k ry
 ·rw[e_ q,e_ q];exact Paired.snoc r ⟨rfl,hb,ry⟩
def KT.keeps{H H':Hp}(r:KT H kvs xs)(ht:∀b ys,H b=some (.tup ys)->H' b=some (.tup ys)):KT H' kvs xs:=
 Paired.mapP r fun _ _ z=>⟨z.1,ht _ _ z.2.1,z.2.2⟩
section
variable{P:Uo}{w:Up}{H:Hp}{h:Heap}{a:Ul}
def Dy{u:HO}(ok:PJ P w H h)(e:Rd H a u):O2 P w H h a u:=e.ok ok
def li{kvs:List (cQ×V)}(ok:PJ P w H h)(e:Rd H a (.dK kvs)):kvs.length<=sizeLine/\(a==sysModules)=false/\∃vs,KV kvs vs/\h.DictOf (cy P w) a vs:=
 show O2 P w H h a (.dK kvs)from Dy ok e
def yq{kvs:List (cQ×V)}(ok:PJ P w H h)(e:H a=some (.dK kvs)):kvs.length<=sizeLine/\(a==sysModules)=false/\∃vs,KV kvs vs/\h.DictOf (cy P w) a vs:=li ok (.inl e)
def jz{ks:List cQ}(ok:PJ P w H h)(e:H a=some (.tup (ks.map kV))):(tupleKind (cy P w)).is h ks a:=by
 obtain⟨_,f',r,o,h1,h2,n,h3⟩:=(show O2 P w H h a (.tup (ks.map kV))from ok a _ e);exact⟨o,f'.toArray,n,h1,(P_ h2).1,h3,by simpa using nK r⟩
def lj(ok:PJ P w H h)(e:Rd H a (.dT kvs)):kvs.length<=sizeLine/\(a==sysModules)=false /\
  ∃xs,KT H kvs xs/\h.DictOfH (tupleKind (cy P w)) a xs:=by
 obtain⟨z,y,xs,r,o,es,ep,h1,h2,h3,h4,h5⟩:=(show O2 P w H h a (.dT kvs)from Dy ok e);refine⟨z,y,xs,r,o,es,ep,h1,h2,h3,h4,fun x hx=>?_,h5⟩;have all:∀{l:List (List cQ×V)}{m:List (List cQ×Ul×Uk)},KT H l m->∀x∈m,(tupleKind (cy P w)).is h x.1 x.2.1:=by
  intro l m q;induction q with
  |nil=>intro x hx;exact nomatch hx
  |@cons p q ps qs hq t ih=>
   intro x hx;rcases KH.mp hx with e|hx
   ·subst e;exact jz ok (by rw[<-hq.1];exact hq.2.1)
   ·exact ih x hx
 exact all r x hx
def G3(ok:PJ P w H h)(e:H a=some (.dT kvs)):kvs.length<=sizeLine/\(a==sysModules)=false /\
  ∃xs,KT H kvs xs/\h.DictOfH (tupleKind (cy P w)) a xs:=lj ok (.inl e)
end
def Pj(H:Hp)(a:Ul)(y:V)(r:Option V):Prop:=
 (∃kvs k,Rd H a (.dK kvs)/\y=kV k/\r=bq kvs k)\/∃kvs k b,Rd H a (.dT kvs)/\y=.ref b/\H b=some (.tup (k.map kV))/\r=bq kvs k
def P4(H:Hp)(a:Ul)(y v:V)(H':Hp):Prop:=
 (∃kvs k,H a=some (.dK kvs)/\y=kV k/\kvs.length<sizeLine/\H'=aM H a (.dK (bz kvs k v))) ∨
 ∃kvs k b,H a=some (.dT kvs)/\y=.ref b/\H b=some (.tup (k.map kV))/\kvs.length<sizeLine/\H'=aM H a (.dT (bz kvs k v))
variable{a:Ul}
def Pj.k{kvs:List (cQ×V)}{k:cQ}(e:H a=some (.dK kvs)):Pj H a (kV k) (bq kvs k):=.inl ⟨kvs,k,.inl e,rfl,rfl⟩
def P4.k{kvs:List (cQ×V)}{k:cQ}{v:V}(e:H a=some (.dK kvs))(hl:kvs.length<sizeLine):P4 H a (kV k) v (aM H a (.dK (bz kvs k v))):=.inl ⟨kvs,k,e,rfl,hl,rfl⟩
section
variable{X:Cx}{MC:List (Ul×Obj)}{σ:St}{H:Hp}{s:Um}{a:Ul}{y v:V}{u r:Uk}{o:Option V}{A:Uq}{E:Uk->Um->Prop}
def OR.big(I:OR X MC σ H s):sysModules<s.heap.objs.size:=by
 have h:mainGlobals<s.heap.objs.size:=(I.mod.glob.keeps I.bk).lt;exact Nat.lt_trans zd h
variable{Q:Uk->Um->Prop}
def wV(hu:A.units+1<cLine)(I:OR X MC σ H s)(g:Pj H a y (some v))(ry:OW y u)(h:∀w' s',OR X MC σ H s'->OW v w'->Q w' s'):
  wpAny (model X.prog X.w) A (getItem (.ref a) u) Q E s:=by
 rcases g with⟨kvs,k,e,ey,l⟩|⟨kvs,k,b,e,ey,eb,l⟩
 ·subst ey;obtain⟨z,hd,vs,Uz,dd⟩:=li I.hok e;obtain⟨w',hw,V6⟩:=Pu.some_of (v:=v) (o:=valueAt vs k) (by rw[l];exact Uz.val k);exact wpAny_getItem_of (k9 ry) dd.mapOf hw (h w' _ (I.tok _) V6)
 ·subst ey;cases(show u=Value.ref b from ry);obtain⟨z,hd,xs,Uz,dd⟩:=lj I.hok e;obtain⟨w',hw,V6⟩:=Pu.some_of (v:=v) (o:=(atKey xs k).map (·.2)) (by rw[l];exact Uz.val k);obtain⟨p,hp,Wq⟩:=Option.map_eq_some_iff.mp hw;refine wpAny_getItem_heap (z_ hu) (jz I.hok eb) dd hp ?_;rw[Wq];exact h w' _ (I.tok _) V6
def Jn(hu:A.units+1<cLine)(I:OR X MC σ H s)(g:Pj H a y o)(ry:OW y u)(h:∀s',OR X MC σ H s'->Q (.bool o.isSome) s'):
  wpAny (model X.prog X.w) A (compareOp .In u (.ref a)) Q E s:=by
 rcases g with⟨kvs,k,e,ey,l⟩|⟨kvs,k,b,e,ey,eb,l⟩
 ·subst ey;obtain⟨z,hd,vs,Uz,dd⟩:=li I.hok e;refine wpAny_in_of (k9 ry) hd dd.mapOf ?_;rw[<-(Uz.val k).isSome_eq,<-l];exact h _ (I.tok _)
 ·subst ey;cases(show u=Value.ref b from ry);obtain⟨z,hd,xs,Uz,dd⟩:=lj I.hok e;refine wpAny_in_heap (z_ hu) (jz I.hok eb) hd dd ?_;have q:=(Uz.val k).isSome_eq;rw[RS]at q;rw[<-q,<-l];exact h _ (I.tok _)
def Bz(hu:A.units+1<cLine)(I:OR X MC σ H s)(g:Pj H a y o)(ry:OW y u)(h:∀s',OR X MC σ H s'->Q (.bool (!o.isSome)) s'):
  wpAny (model X.prog X.w) A (compareOp .NotIn u (.ref a)) Q E s:=by
 rcases g with⟨kvs,k,e,ey,l⟩|⟨kvs,k,b,e,ey,eb,l⟩
 ·subst ey;obtain⟨z,hd,vs,Uz,dd⟩:=li I.hok e;refine wpAny_notIn_of (k9 ry) hd dd.mapOf ?_;rw[<-(Uz.val k).isSome_eq,<-l];exact h _ (I.tok _)
 ·subst ey;cases(show u=Value.ref b from ry);obtain⟨z,hd,xs,Uz,dd⟩:=lj I.hok e;refine wpAny_notIn_heap (z_ hu) (jz I.hok eb) hd dd ?_;have q:=(Uz.val k).isSome_eq;rw[RS]at q;rw[<-q,<-l];exact h _ (I.tok _)
def oI{h':Heap}{t':Nat}{ob:HO}(I:OR X MC σ H s)(mu:GD (H a))(hs:Heap.SameBut a s.heap h')(he:∃q,h'.get? a=some q)(new:O2 X.prog X.w (aM H a ob) h' a ob):
  OR X MC σ (aM H a ob) {s with heap:=h',toks:=t'}:=
 I.write (x:=a) (e:=a) mu (.inl rfl) (fun b q hb z=>(hs.2 b hb).trans z) he new
def tu{H':Hp}{h':Heap}{kvs:List (cQ×V)}{vs:List (cQ×Uk)}(z:kvs.length<=sizeLine)(hd:(a==sysModules)=false)(Uz:KV kvs vs)(dd:h'.DictOf (cy P w) a vs):
  O2 P w H' h' a (.dK kvs):=⟨z,hd,vs,Uz,dd⟩
def wW{H':Hp}{Q:Unit->Um->Prop}(hu:A.units+1<cLine)(I:OR X MC σ H s)(g:P4 H a y v H')(ry:OW y u)(rv:OW v r)(h:∀s',OR X MC σ H' s'->Q () s'):
  wpAny (model X.prog X.w) A (setItem (.ref a) u r) Q E s:=by
 rcases g with⟨kvs,k,e,ey,l,eH⟩|⟨kvs,k,b,e,ey,eb,l,eH⟩
 ·subst ey eH;obtain⟨z,hd,vs,Uz,dd⟩:=yq I.hok e;have hz:vs.length<=sizeLine:=by rw[<-Uz.length];exact z
  have hl:(bz kvs k v).length<=sizeLine:=by have:=gH kvs k v;lia
  refine wpAny_setItem_pairs (hsz:=hz) (k9 ry) dd fun h' Yj hs=>h _ ?_;have he:∃q,h'.get? a=some q:=let⟨q,_,_,hq,_⟩:=Yj;⟨q,hq⟩;exact oI I (by rw[e];exact True.intro) hs he (tu hl hd (Uz.put k rv) Yj)
 ·subst ey eH;cases(show u=Value.ref b from ry);obtain⟨z,hd,xs,Uz,dd⟩:=G3 I.hok e;have hz:xs.length<=sizeLine:=by rw[<-Paired.length Uz];exact z
  have hl:(bz kvs k v).length<=sizeLine:=by have:=gH kvs k v;lia
  refine wpAny_setItem_heap (hsz:=hz) (z_ hu) (jz I.hok eb) dd fun h' Yj hs=>h _ ?_;obtain⟨q,es,ep,hq,h2,h3,h4,_,h5⟩:=Yj;refine oI I (by rw[e];exact True.intro) hs ⟨q,hq⟩ ⟨hl,hd,_,(Uz.put k eb rv).keeps fun c ys ec=>?_,q,es,ep,hq,h2,h3,h4,h5⟩;rw[au (GC ec e (fun z=>nomatch z))];exact ec
end
def G4(i:Expr):Prop:=∀ov iv,subscripted i false ov iv=operate [ov,iv] (getItem ov iv)
def BA{prog:Uo}{w:Up}{A:Uq}{E:Uk->Um->Prop}{s:Um}{env:Env}{value Uw:Expr}{pos:Pos}{T id:String}{Q:Uk->Um->Prop}
  (hl:typeLookup (.type T) "__getitem__"=pure (some (.builtin id))) (hs:G4 Uw)
  (h:wpAny (model prog w) A (eval value env) (fun o s₁=>wpAny (model prog w) A (eval Uw env) (fun i s₂=>s₂.TypeIs o T/\wpAny (model prog w) A (getItem o i) Q E s₂) E s₁) E s) :
  wpAny (model prog w) A (eval (.Subscript value Uw pos) env) Q E s:=by
 refine Subscript_ (q_ h (fun o s₁ h₁=>q_ h₁ (fun i s₂ h₂=>?_) fun _ _ x=>x) fun _ _ x=>x);obtain⟨hT,h₂⟩:=h₂;unfold subscriptTail;refine c_ ?_;rw[getitemInPython_of_ne hT.not_modules];refine c_ (wpAny_specialOf hT hl ?_);have F':wpAny (model prog w) A (subscripted Uw false o i) (fun r s₃=>wpAny (model prog w) A (letTemporaryGo value o r>>=fun _=>pure r) Q E s₃) E s₂:=by
  rw[hs o i];exact wpAny_operating (q_ h₂ (fun r s₃ h₃=>c_ (wpAny_letTemporaryGo (i_ h₃))) fun _ _ x=>x)
 first
  |exact i_ (c_ F')
  |exact c_ (i_ (c_ F'))
  |exact c_ F'
variable{s:Um}{σ:St}{MC:List (Ul×Obj)}{X:Cx}
def rl{o:Option V}(I:OR X MC σ H s)(g:Pj H a y o):s.TypeIs (.ref a) "dict":=by
 rcases g with⟨kvs,k,e,_,_⟩|⟨kvs,k,b,e,_,_,_⟩
 ·obtain⟨_,_,vs,_,dd⟩:=li I.hok e;exact dd.typeIs
 ·obtain⟨_,_,xs,_,dd⟩:=lj I.hok e;exact dd.typeIs
inductive yr(Q:VK)(x:V)(y:V)(H2:Hp):Prop
 |mk(a v:_):x=.ref a->Pj H2 a y (some v)->Q v H2->yr Q x y H2
def G5(td ty:TE):TE:=fun σ H Q=>td σ H fun x H1=>ty σ H1 fun y H2=>yr Q x y H2
inductive Dz(Q:VK)(y:V)(x:V)(H2:Hp):Prop
 |mk(a o:_):x=.ref a->Pj H2 a y o->Q (.bl o.isSome) H2->Dz Q y x H2
def Jo(ty td:TE):TE:=fun σ H Q=>ty σ H fun y H1=>td σ H1 fun x H2=>Dz Q y x H2
inductive rm(Q:VK)(y:V)(x:V)(H2:Hp):Prop
 |mk(a o:_):x=.ref a->Pj H2 a y o->Q (.bl (!o.isSome)) H2->rm Q y x H2
def BB(ty td:TE):TE:=fun σ H Q=>ty σ H fun y H1=>td σ H1 fun x H2=>rm Q y x H2
inductive yt(D:gD)(σ:St)(v:V)(x:V)(y:V)(H3:Hp):Prop
 |mk(a H4:_):x=.ref a->P4 H3 a y v H4->D.nx σ H4->yt D σ v x y H3
def G6(td ty tv:TE):TS:=fun D σ H=>tv σ H fun v H1=>td σ H1 fun x H2=>ty σ H2 fun y H3=>yt D σ v x y H3
section
variable{X:Cx}{o i e value:Expr}{pos UH Z_:Pos}{td ty tv:TE}
def bx(hu:X.A.units+1<cLine)(ho:PE X o td)(hi:PE X i ty)(hs:G4 i:=by intro _ _;rfl):PE X (.Subscript o i pos) (G5 td ty):=by
 refine⟨?_⟩;intro MC s σ H Q I h;refine BA PySem.F.slot_dict_getitem.lookup hs (cg (ho MC s σ H _ I h) fun u s1⟨x,H1,I1,rx,q1⟩=>cg (hi MC s1 σ H1 _ I1 q1) fun iv s2 hZZ=>?_);obtain⟨y,H2,I2,ry,a,v,ex,g,q2⟩:=hZZ;subst ex;obtain rfl:u=Value.ref a:=rx;exact⟨rl I2 g,wV hu I2 g ry fun w' s3 I3 V6=>⟨v,H2,I3,V6,q2⟩⟩
def yu(hu:X.A.units+1<cLine)(hi:PE X i ty)(ho:PE X o td):PC X .In i o (Jo ty td):=by
 intro MC s σ H Q I h;refine cg (hi MC s σ H _ I h) fun iv s1⟨y,H1,I1,ry,q1⟩=>cg (ho MC s1 σ H1 _ I1 q1) fun u s2 hZZ=>?_;obtain⟨x,H2,I2,rx,a,ov,ex,g,q2⟩:=hZZ;subst ex;obtain rfl:u=Value.ref a:=rx;exact Jn hu I2 g ry fun s3 I3=>⟨.bl ov.isSome,H2,I3,rfl,q2⟩
def wX(hu:X.A.units+1<cLine)(hi:PE X i ty)(ho:PE X o td):PC X .NotIn i o (BB ty td):=by
 intro MC s σ H Q I h;refine cg (hi MC s σ H _ I h) fun iv s1⟨y,H1,I1,ry,q1⟩=>cg (ho MC s1 σ H1 _ I1 q1) fun u s2 hZZ=>?_;obtain⟨x,H2,I2,rx,a,ov,ex,g,q2⟩:=hZZ;subst ex;obtain rfl:u=Value.ref a:=rx;exact Bz hu I2 g ry fun s3 I3=>⟨.bl (!ov.isSome),H2,I3,rfl,q2⟩
def gW(hu:X.A.units+1<cLine)(ho:PE X o td)(hi:PE X i ty)(hv:PE X value tv)(hs:swapsWith value (some (.Subscript o i UH)) pos.line X.env=pure false):
  PS X (.Assign [.Subscript o i UH] value pos) (G6 td ty tv):=by
 refine⟨?_⟩;intro MC s σ H D I h;refine wpAny_Assign_Subscript (cg (hv MC s σ H _ I h) fun r s1⟨v,H1,I1,rv,q1⟩=>cg (ho MC s1 σ H1 _ I1 q1) fun u s2⟨x,H2,I2,rx,q2⟩=>cg (hi MC s2 σ H2 _ I2 q2) fun iv s3 hZZ=>?_) hs;obtain⟨y,H3,I3,ry,a,H4,ex,g,q3⟩:=hZZ;subst ex;obtain rfl:u=Value.ref a:=rx;exact wW hu I3 g ry rv fun s4 I4=>⟨σ,H4,I4,q3⟩
end
def rn(h:Heap)(hb:sysModules<h.objs.size):O2 P w H (h.push {cls:=.type "dict",data:=.dict #[]}) h.objs.size (.dK []):=
 ⟨Lh _,beq_eq_false_iff_ne.mpr (Pi (Lk hb)),[],.nil,Heap.DictOf.new h⟩
def EB:TE:=fun _ H Q=>∀p,H p=none->Q (.ref p) (aM H p (.dK []))
section
variable{X:Cx}{pos:Pos}
def rq:PE X (.Dict [] [] pos) EB:=⟨fun MC s σ H Q I h=>
 wpAny_Dict_empty ⟨.ref s.heap.objs.size,_,I.laid (a:=s.heap.objs.size) (o:=.dK []) (t':=s.toks) (fun _ _ q=>KE _ q) (KO _) (rn s.heap I.big),rfl,h _ (I.hok.fresh (KO _))⟩⟩
end
def tw:List (TE×TE)->St->Hp->(List (V×V)->Hp->Prop)->Prop
 |[],_,H,Q=>Q [] H
 |(tk,tv)::r,σ,H,Q=>tk σ H fun x H1=>tv σ H1 fun y H2=>tw r σ H2 fun ps H3=>Q ((x,y)::ps) H3
abbrev VV:List (V×V)->List (Uk×Uk)->Prop:=Paired fun p q=>OW p.1 q.1/\OW p.2 q.2
def IE(X:Cx)(pos:Pos)(Vi:List (Option Expr))(UQ:List Expr)(Xv:List (TE×TE)):Prop:=
 ∀(MC:List (Ul×Obj))(s:Um)(σ:St)(H:Hp)(Q:List (V×V)->Hp->Prop),OR X MC σ H s->tw Xv σ H Q->
  wpAny (model X.prog X.w) X.A (evalPairs (pairTrees Vi UQ X.env pos)) (fun vs s'=>∃ps H',OR X MC σ H' s'/\VV ps vs/\Q ps H') X.xe s
def iY{pos:Pos}:IE X pos [] [] []:=fun MC s σ H Q I h=>pairTrees_nil_walk ⟨[],H,I,.nil,h⟩
variable{Xv:List (TE×TE)}
def cI{pos:Pos}{k v:Expr}{ks:List (Option Expr)}{vs:List Expr}{tk tv:TE}(hk:PE X k tk)(hv:PE X v tv)(hr:IE X pos ks vs Xv):
  IE X pos (some k::ks) (v::vs) ((tk,tv)::Xv):=fun MC s σ H Q I h=>
 pairTrees_cons_walk (cg (hk MC s σ H _ I h) fun u s1⟨x,H1,I1,rx,q1⟩=>cg (hv MC s1 σ H1 _ I1 q1) fun w2 s2⟨y,H2,I2,ry,q2⟩=>
  cg (hr MC s2 σ H2 _ I2 q2) fun ws s3⟨ps,H3,I3,Uz,q3⟩=>⟨(x,y)::ps,H3,I3,.cons ⟨rx,ry⟩ Uz,q3⟩)
def eC(kvs more:List (cQ×V)):List (cQ×V):=more.foldl (fun UB kv=>bz UB kv.1 kv.2) kvs
def KV.merge:∀{more:List (cQ×V)}{rs:List (cQ×Uk)}{kvs:List (cQ×V)}{vs:List (cQ×Uk)},KV more rs->KV kvs vs->KV (eC kvs more) (merged vs rs):=by
 intro more rs kvs vs r;unfold KV at r;induction r generalizing kvs vs with
 |nil=>intro q;exact q
 |@cons p q ps qs h t ih=>
  intro r0;have e:KV (bz kvs p.1 p.2) (stored vs q.1 q.2):=by
   have:=r0.put p.1 h.2;rw[<-h.1];exact this
  exact ih e
def fT:∀(more kvs:List (cQ×V)),(eC kvs more).length<=kvs.length+more.length
 |[],kvs=>by show kvs.length<=kvs.length+0;lia
 |p::r,kvs=>by
  have h1:=fT r (bz kvs p.1 p.2);have h2:=gH kvs p.1 p.2;show(eC (bz kvs p.1 p.2) r).length<=_;rw[KC];lia
def lA{P:Uo}{w:Up}:∀{kvs:List (cQ×V)}{ws:List (Uk×Uk)},VV (kvs.map fun kv=>(kV kv.1,kv.2)) ws->∃rs,Carries (cy P w) ws rs/\KV kvs rs
 |[],_,r=>by rw[LP]at r;cases r;exact⟨[],True.intro,.nil⟩
 |p::kvs,_,r=>by
  rw[K2]at r;cases r with
  |@cons a b as bs h t=>
   obtain⟨rs,c,q⟩:=lA (P:=P) (w:=w) t;obtain⟨b1,b2⟩:=b;exact⟨(p.1,b2)::rs,⟨k9 h.1,rfl,c⟩,.cons ⟨rfl,h.2⟩ q⟩
def G7(Xv:List (TE×TE)):TE:=fun σ H Q=>∀p,H p=none->tw Xv σ (aM H p (.dK [])) fun ps H2=>H2 p=some (.dK [])/\∃kvs:List (cQ×V),ps=kvs.map (fun kv=>(kV kv.1,kv.2))/\kvs.length<=15/\Q (.ref p) (aM H2 p (.dK (eC [] kvs)))
def iZ{pos:Pos}{Vi:List (Option Expr)}{UQ:List Expr}(h:IE X pos Vi UQ Xv)(WB:Vi.all (·.isSome)=true)(hl:Vi.length=UQ.length)(h0:Vi≠[])
  (YY:Vi.length<=15):PE X (.Dict Vi UQ pos) (G7 Xv):=by
 refine⟨?_⟩;intro MC s σ H Q I q;have hn:=I.hok.fresh (KO s.heap.objs.size);have I1:=I.laid (a:=s.heap.objs.size) (o:=.dK []) (h':=s.heap.push {cls:=.type "dict",data:=.dict #[]}) (t':=s.toks) (fun _ _ q=>KE _ q) (KO _) (rn s.heap I.big);refine wpAny_Dict_walk (knd:=cy X.prog X.w) WB hl h0 YY (cg (h MC _ σ _ _ I1 (q _ hn)) fun ws s2 hZZ=>?_);obtain⟨ps,H2,I2,Uz,e,kvs,ep,lk,q2⟩:=hZZ;subst ep;obtain⟨rs,c,rk⟩:=lA (P:=X.prog) (w:=X.w) Uz;obtain⟨z,hd,vs0,r0,dd⟩:=yq I2.hok e;cases r0;refine⟨rs,c,dd,fun h' Yj hs=>⟨.ref s.heap.objs.size,_,?_,rfl,q2⟩⟩;have hz:(eC [] kvs).length<=sizeLine:=by
  have h1:=fT kvs [];rw[K3]at h1;rw[sizeLine_eq];lia
 have he:∃q,h'.get? s.heap.objs.size=some q:=let⟨q,_,_,hq,_⟩:=Yj;⟨q,hq⟩;exact oI I2 (by rw[e];exact True.intro) hs he (tu hz hd (rk.merge .nil) Yj)
structure M2(X:Cx)(o:Expr)(m:Str)(L':Pos)(e f:Expr)(A':Pos):Prop where
 base:attributeBase o m X.env (eval o X.env)=eval o X.env
 few:((backTo A' (starEach [e,f] X.env)).all (fun x=>!x.1)&&(backToKw A' (keywordEach [] X.env)).all (fun x=>x.1.isSome)
  && decide (([e,f]:List Expr).length+([]:List Keyword).length+(if([]:List Keyword).isEmpty then 0 else 1)<30))=true
 line:(L'.endLine==A'.line)=true
 trees:backTo A' (starEach [e,f] X.env)=[(false,eval e X.env),(false,eval f X.env)]
def Kc(H:Hp)(a:Ul):Prop:=(∃kvs,Rd H a (.dK kvs))\/∃kvs,Rd H a (.dT kvs)
def EC(I:OR X MC σ H s)(d:Kc H a):
  s.TypeIs (.ref a) "dict"/\(∀b,Value.ref a=.ref b->∃ob,s.heap.get? b=some ob/\ob.dict=none)/\(a==sysModules)=false:=by
 rcases d with⟨kvs,e⟩|⟨kvs,e⟩
 ·obtain⟨_,hd,vs,_,dd⟩:=li I.hok e;refine⟨dd.typeIs,fun b q=>?_,hd⟩;cases q;obtain⟨ob,_,_,h1,h2,_⟩:=dd;exact⟨ob,h1,h2.2.1⟩
 ·obtain⟨_,hd,xs,_,dd⟩:=lj I.hok e;refine⟨dd.typeIs,fun b q=>?_,hd⟩;cases q;obtain⟨ob,_,_,h1,h2,_⟩:=dd;exact⟨ob,h1,h2.2.1⟩
section
variable{X:Cx}{MC:List (Ul×Obj)}{σ:St}{H:Hp}{s:Um}{a:Ul}{y d:V}{u r:Uk}{o:Option V}{A:Uq}{E:Uk->Um->Prop}
def ED{Q:Uk->Um->Prop}(hu:A.units+1<cLine)(I:OR X MC σ H s)(g:Pj H a y o)(ry:OW y u)(rd:OW d r)(h:∀w' s',OR X MC σ H s'->OW (o.getD d) w'->Q w' s'):
  wpAny (model X.prog X.w) A (call (.builtin "dict.get") [.ref a,u,r]) Q E s:=by
 rcases g with⟨kvs,k,e,ey,l⟩|⟨kvs,k,b,e,ey,eb,l⟩
 ·subst ey;obtain⟨z,hd,vs,Uz,dd⟩:=li I.hok e;refine call_meetsIn M_ dd.typeIs PySem.F.entry_dict_get (PySem.F.args_dict_get_3 _ _ _) (meets_dict_get_default (cy X.prog X.w) a (k9 ry) hd r) ⟨_,dd.mapOf,h _ _ (I.tok _) ?_⟩;rw[l];exact(Uz.val k).getD rd
 ·subst ey;cases(show u=Value.ref b from ry);obtain⟨z,hd,xs,Uz,dd⟩:=lj I.hok e;refine call_meetsIn M_ dd.typeIs PySem.F.entry_dict_get (PySem.F.args_dict_get_3 _ _ _) (meetsH_dict_get_default (tupleKind (cy X.prog X.w)) a b hd r) ⟨z_ hu,k,xs,jz I.hok eb,dd,h _ _ (I.tok _) ?_⟩;rw[l];exact(Uz.val k).getD rd
end
inductive vJ(ty:TE)(tx:TE)(σ:St)(Q:VK)(x:V)(H1:Hp):Prop
 |mk(a:_):x=.ref a->Kc H1 a->(ty σ H1 fun y H2=>tx σ H2 fun z H3=>∃o,Pj H3 a y o/\Q (o.getD z) H3)->vJ ty tx σ Q x H1
def EE(td ty tx:TE):TE:=fun σ H Q=>td σ H fun x H1=>vJ ty tx σ Q x H1
section
variable{X:Cx}{o e f:Expr}{L' A':Pos}{td ty tx:TE}
def yw(hu:X.A.units+1<cLine)(ho:PE X o td)(he:PE X e ty)(hf:PE X f tx)(m:M2 X o "get" L' e f A'):PE X (.Call (.Attribute o "get" L') [e,f] [] A') (EE td ty tx):=by
 refine⟨?_⟩;intro MC s σ H Q I h;refine wpAny_Call_method m.base m.few m.line PySem.F.plainAttrs_dict M_ PySem.F.type_dict_get (cg (ho MC s σ H _ I h) fun u s1 hZZ=>?_);obtain⟨x,H1,I1,rx,a,ex,d,q1⟩:=hZZ;subst ex;obtain rfl:u=Value.ref a:=rx;obtain⟨t1,t2,_⟩:=EC I1 d;refine⟨t1,t2,?_⟩;rw[m.trees];refine Mh rfl (RW (R7 (cg (he MC s1 σ H1 _ I1 q1) fun iv s2⟨y,H2,I2,ry,q2⟩=>
  R7 (cg (hf MC s2 σ H2 _ I2 q2) fun fv s3⟨z,H3,I3,rz,ov,g,q3⟩=>Calls.spliced_nil ?_))))
 exact ED hu I3 g ry rz fun w' s4 I4 V6=>⟨_,H3,I4,V6,q3⟩
end
end
def Jp(P:St->Hp->Prop)(t u:TS):TS:=fun D σ H=>(∀σ' H',P σ' H'->u D σ' H')/\t {D with nx:=P} σ H
def bN{X:Cx}{st:Stmt}{j':List Stmt}{t u:TS}(P:St->Hp->Prop)(h1:PS X st t)(h2:Qx X j' u):Qx X (st::j') (Jp P t u):=by
 refine⟨?_⟩;intro MC s σ H D I h;refine wpAny_execs_cons (cg (h1 MC s σ H {D with nx:=P} I h.2) fun f s1 q=>?_);cases f with
 |next=>
  obtain⟨σ',H',I',q⟩:=q;exact h2 MC s1 σ' H' D I' (h.1 _ _ q)
 |ret v=>exact q
 |brk=>exact q
 |cont=>exact q
def G8(Pt Pf:St->Hp->Prop)(t:TT):TT:=fun σ H Q=>(∀H',Pt σ H'->Q true H')/\(∀H',Pf σ H'->Q false H')/\t σ H fun b H'=>if b=true then Pt σ H' else Pf σ H'
def dh(Pt Pf:St->Hp->Prop)(h:PT X e t):PT X e (G8 Pt Pf t):=by
 refine⟨?_⟩;intro MC s σ H Q I hq;refine cg (h MC s σ H _ I hq.2.2) fun b s1⟨H1,I1,q⟩=>⟨H1,I1,?_⟩;cases b with
 |true=>exact hq.1 H1 (by simpa using q)
 |false=>exact hq.2.1 H1 (by simpa using q)
section
variable{H:Hp}
def yx{K:ZF}{a:Ul}{xs:Uv}{g:TG}{tf:TT}{te:TE}{ix:List (Option Nat)}{σ:St}{Q:VK}(Pv:Nat->Uv->Hp->Prop)(h0:Pv 0 [] H)
  (hl:∀i ys H,i<=xs.length->Pv i ys H->ON K H a xs/\ys.length<=sizeLine)
  (hs:∀i x ys H,xs[i]?=some x->Pv i ys H->g x (qF ix σ) H fun σ2 H2=>P7 (qF ix σ) σ2/\tf σ2 H2 fun b H3=>if b=true then te σ2 H3 fun y H4=>Nx Pv xs.length i (ys++[y]) H4 else Nx Pv xs.length i ys H3)
  (hd:∀ys H,Pv xs.length ys H->∀D,H D=none->Q (.ref D) (aM H D (.lst ys))) :
  wR (Gw K a) g tf te ix σ H Q:=by
 refine⟨fun i m ys H=>m=xs.length-i/\i<=xs.length/\Pv i ys H,⟨xs.length,by simp,Lh _,h0⟩,?_⟩;rintro i m ys H ⟨rfl,hi,p⟩;obtain⟨q,hz⟩:=hl i ys H hi p;by_cases MP:i<xs.length
 ·refine .inr ⟨⟨xs,xs[i],q,by simp[MP]⟩,hz,fun x H' y=>?_⟩;obtain⟨e,y⟩:=y;subst e;exact hs i x ys _ (y xs q) p
 ·have e:i=xs.length:=by lia
  subst e;exact .inl ⟨⟨xs,q,KO _⟩,hz,hd ys H p⟩
def OZ(H H':Hp):Prop:=∀a xs,H a=some (.tup xs)->H' a=some (.tup xs)
def OZ.trans(a:OZ H H1)(b:OZ H1 H2):OZ H H2:=fun c x e=>b c x (a c x e)
def av(s:OM H H'):OZ H H':=fun a xs e=>s _ _ e
def EF(h:H p=some (.lst xs)):OZ H (aM H p (.lst ys)):=fun a zs e=>by
 have:a≠p:=by
  rintro rfl;rw[h]at e;cases e
 rw[au this];exact e
def EG(x:Str):Bool:=(PyData.str x).canLay0
mutual
inductive Td(H:Hp):V->PyData->Prop
 |int (i:Int):Td H (.int i) (.int i)
 |str (x:Str) (h:EG x=true):Td H (.str x) (.str x)
 |tup {a:Ul} {xs:Uv} {ds:List PyData}:H a=some (.tup xs)->O5 H xs ds->Td H (.ref a) (.tuple ds)
inductive O5(H:Hp):Uv->List PyData->Prop
 |nil:O5 H [] []
 |cons {v:V} {d:PyData} {vs:Uv} {ds:List PyData}:Td H v d->O5 H vs ds->O5 H (v::vs) (d::ds)
end
mutual
variable{K:ZF}
def Td.dt:∀{v:V}{d:PyData},Td H v d->Dt K H v d
 |_,_,.int i=>.int i
 |_,_,.str x _=>.str x
 |_,_,.tup e t=>.tup (ON.of e) (O5.dt t)
def O5.dt:∀{vs:Uv}{ds:List PyData},O5 H vs ds->Po K H vs ds
 |_,_,.nil=>.nil
 |_,_,.cons h t=>.cons (Td.dt h) (O5.dt t)
end
mutual
def Td.lay:∀{v:V}{d:PyData},Td H v d->d.canLay0=true
 |_,_,.int i=>rfl
 |_,_,.str x h=>h
 |_,_,.tup e t=>O5.lay t
def O5.lay:∀{vs:Uv}{ds:List PyData},O5 H vs ds->PyData.canLayAll0 ds=true
 |_,_,.nil=>rfl
 |_,_,.cons h t=>by
  simp only[PyData.canLayAll0,Td.lay h,O5.lay t,Bool.and_self]
end
mutual
def Td.eqv:∀{v:V}{d:PyData},Td H v d->PyData.eqv d d=true
 |_,_,.int i=>by simp[PyData.eqv]
 |_,_,.str x _=>by simp[PyData.eqv]
 |_,_,.tup e t=>by simp only[PyData.eqv];exact O5.eqv t
def O5.eqv:∀{vs:Uv}{ds:List PyData},O5 H vs ds->PyData.eqvAll ds ds=true
 |_,_,.nil=>by simp[PyData.eqvAll]
 |_,_,.cons h t=>by
  simp only[PyData.eqvAll,Td.eqv h,O5.eqv t,Bool.and_self]
end
end
section
inductive vK(X:Cx)(m:Str)(t:TA)(σ:St)(Q:VK)(x:V)(H1:Hp):Prop
 |mk(a dx C f:Ul)(fs:List (Str×V))(fd:Ur)(k:Nat)(ps:Us)(sp:Sp):x=.ref a->H1 a=some (.ins C dx fs)->fs.lookup m=none->QH X.K C->Bo X.K C m f->OQ X.prog X.w X.K X.mg X.base bQ k f fd ps sp->OU k X.A->Pb X.K fd ps []->(t σ H1 fun vs H2=>sp (.ref a::vs) H2 Q E0)->vK X m t σ Q x H1
def EH(X:Cx)(m:Str)(ta:TE)(t:TA):TE:=fun σ H Q=>ta σ H fun x H1=>vK X m t σ Q x H1
def be(he:PE X o ta)(ha:PA X (e::es) t)
  (UK:starEach (e::es) X.env=(false,eval e X.env)::starEach es X.env:=by rfl) (Vc:(backTo pos (starEach es X.env)).any (·.1)=false:=by rfl)
  (ht:eval (.Call (.Attribute o m L') (e::es) [] pos) X.env=(do
   let ov <-eval o X.env
   standAt L'.atName
   let(f,first) <-holding [ov] (getMethod ov m pl)
   callWith pos f first (backTo pos (starEach (e::es) X.env)) (backToKw pos (keywordEach [] X.env))):=by rfl) :
  PE X (.Call (.Attribute o m L') (e::es) [] pos) (EH X m ta t):=by
 refine⟨?_⟩;intro MC s σ H Q I h;refine PySem.W.methodCall_KW (pl:=pl) (cg (he MC s σ H _ I h) fun u s1 hZZ=>?_) ht;obtain⟨x,H1,I1,rx,a,dx,C,f,fs,fd,k,ps,sp,ex,ea,l,c,hm,F,hr,hb,q⟩:=hZZ;subst ex;obtain rfl:u=Value.ref a:=rx;refine kR I1 ea c hm l ?_;refine RP (first:=[.ref a]) (h₀:=X.base) I.ok.mod.kin hm.kp (cg (ha pos MC s1 σ H1 _ I1 q) fun us s2⟨vs,H2,I2,r,q2⟩=>⟨I2.kIn,?_⟩) UK Vc;exact ow (us:=.ref a::us) (vs:=.ref a::vs) (dvs:=[]) (ds:=[]) F hr hb .nil iV I2 (.cons rfl r) (by rw[Lm];exact q2)
inductive rB(X:Cx)(m:Str)(Q:VK)(x:V)(H1:Hp):Prop
 |mk(a dx C f:Ul)(fs:List (Str×V))(fd:Ur)(k:Nat)(ps:Us)(sp:Sp):x=.ref a->H1 a=some (.ins C dx fs)->fs.lookup m=none->QH X.K C->Bo X.K C m f->OQ X.prog X.w X.K X.mg X.base bQ k f fd ps sp->OU k X.A->Pb X.K fd ps []->sp [.ref a] H1 Q E0->rB X m Q x H1
def BC(X:Cx)(m:Str)(ta:TE):TE:=fun σ H Q=>ta σ H fun x H1=>rB X m Q x H1
def bh(he:PE X o ta)
  (ht:eval (.Call (.Attribute o m L') [] [] pos) X.env=(do
   let ov <-eval o X.env
   standAt L'.atName
   let(f,first) <-holding [ov] (getMethod ov m pl)
   callWith pos f first (backTo pos (starEach [] X.env)) (backToKw pos (keywordEach [] X.env))):=by rfl) :
  PE X (.Call (.Attribute o m L') [] [] pos) (BC X m ta):=by
 refine⟨?_⟩;intro MC s σ H Q I h;refine PySem.W.methodCall_KW (pl:=pl) (cg (he MC s σ H _ I h) fun u s1 hZZ=>?_) ht;obtain⟨x,H1,I1,rx,a,dx,C,f,fs,fd,k,ps,sp,ex,ea,l,c,hm,F,hr,hb,q⟩:=hZZ;subst ex;obtain rfl:u=Value.ref a:=rx;refine kR I1 ea c hm l ?_;exact PySem.W.callWith_K0 (first:=[.ref a]) I1.kIn hm.kp (ow (us:=[.ref a]) (vs:=[.ref a]) (dvs:=[]) (ds:=[]) F hr hb .nil iV I1 (.cons rfl .nil) q)
end
def Gy(K:ZF)(l:Ul):It:=
 ⟨fun i H=>∃xs x,OO K H l xs/\xs[i]?=some x,
  fun i H v H'=>∃T x,v=.ref T/\H T=none/\H'=aM H T (.tup [.int i,x])/\∀xs,OO K H l xs->xs[i]?=some x,
  fun i H=>∃xs,OO K H l xs/\xs.length<=i⟩
def wY{P:Uo}{w:Up}{K:ZF}{UP:List Expr}{kt:Nat}{tp:Pos}{e it l:Ul}(MM:e≠it):
  on P w K (.Tuple UP kt tp) (Gy K l) [e,it] e (fun i h=>(∃old,IsEnum h e it i old)/\h.IsListIter it l i) where
 mem:=by simp
 obj:=fun i h st b hb=>by
  obtain⟨⟨old,he⟩,⟨o1,h1,_,d1⟩⟩:=st;simp at hb;rcases hb with rfl|rfl
  ·exact⟨_,he,fun v q=>by cases q⟩
  ·exact⟨_,h1,fun v q=>by rw[d1]at q;cases q⟩
 keep:=fun i h h' st k=>by
  obtain⟨⟨old,he⟩,h1⟩:=st;exact⟨⟨old,k e (by simp) _ he⟩,h1.at fun o q=>k it (by simp) o q⟩
 item:=by
  intro X hP hw hK hc i MC s σ H E I hf st hg;subst hP hw hK;obtain⟨xs,x,hx,ex⟩:=hg;obtain⟨⟨old,he⟩,h1⟩:=st;obtain⟨Uy,VT,p1,z1⟩:=I.list hx;obtain⟨u1,Y0,Ze⟩:=VT.get ex;refine wpAny_pyNext_enum_item he h1 p1.isList (x:=u1) (by simpa using Y0) MM fun h' a1 a2 a3 a4 a5=>⟨_,rfl,?_⟩;refine wpAny_letOwnedTupleGo_enum a1 fun Wu b1 b2=>?_;have hT:H s.heap.objs.size=none:=I.hok.fresh (KO _);have VU:∀b o,s.heap.get? b=some o->b≠s.heap.objs.size:=fun b o q=>Lk (K1 q);refine⟨.ref s.heap.objs.size,aM H s.heap.objs.size (.tup [.int i,x]),?_,rfl,⟨s.heap.objs.size,x,rfl,hT,rfl,fun xs' h=>by rw[I.list_inj h hx];exact ex⟩,?_,fun b hb=>?_⟩
  ·show OR X MC σ (aM H s.heap.objs.size (.tup [.int i,x])) {s with heap:=Wu,toks:=s.toks+1};refine OR.turnedS (s:=s) (h':=Wu) (t':=s.toks+1) (ch:=[e,it]) I (fun b hb=>hf b hb) (fun b o hc q=>?_) (fun b o q=>by rw[au (ao q hT)];exact q) (fun b hb n=>by rw[au (Lk hb)];exact n) fun b o n q=>?_
   ·simp at hc;exact b2.extBut b o hc.1 (a5 b o hc.1 hc.2 q)
   ·by_cases eb:b=s.heap.objs.size
    ·subst eb;rw[ae]at q;cases q;refine⟨OT,[.int i s.toks,u1],.cons ⟨_,rfl⟩ (.cons Ze .nil),_,b2.extBut _ _ ?_ a3,rfl,_,rfl⟩;exact fun z=>VU e _ he z.symm
    ·rw[au eb,n]at q;cases q
  ·refine⟨⟨_,b1⟩,a2.at fun o q=>b2.extBut _ o MM.symm q⟩
  ·have n:=(hf b hb).1;have:b≠s.heap.objs.size:=by
    simp at hb;obtain⟨_,q1,_⟩:=id h1;rcases hb with rfl|rfl
    ·exact VU _ _ he
    ·exact VU _ _ q1
   rw[au this];exact n
 done:=by
  intro X hP hw hK hc i MC s σ H E I hf st hg;subst hP hw hK;obtain⟨xs,hx,hl⟩:=hg;obtain⟨⟨old,he⟩,h1⟩:=st;obtain⟨Uy,VT,p1,z1⟩:=I.list hx;have e1:=VT.length;refine wpAny_pyNext_enum_end (I.ok.hd hc) he h1 p1.isList (by simp;lia) fun h' k=>⟨rfl,?_⟩;obtain⟨f0,f1,f2,f3,f4,f5⟩:=hf it (by simp);exact I.turned (t':=s.toks) (fun b o hb q=>k b o hb q) f0 f1 f3 f4 f5
 self:=fun _ _ _ _ _ st h=>K_ st.1.choose_spec h
section
inductive yy(K:ZF)(R:It->Hp->Prop)(vs:Uv)(H1:Hp):Prop
 |mk(l:_):vs=[.ref l]->(∃xs,OO K H1 l xs)->R (Gy K l) H1->yy K R vs H1
def G9(K:ZF)(ta:TA):TI:=fun σ H R=>ta σ H fun vs H1=>yy K R vs H1
def nL:bootBuiltins "enumerate"=some (.type "enumerate"):=by decide +kernel
def gX{UP:List Expr}{kt:Nat}{tp:Pos}{a:Expr}{ta:TA}{p pos:Pos}(hg:Gl X "enumerate")(hm:X.mg "enumerate"=none)(ha:PA X [a] ta)(hs:starEach [a] X.env=[(false,eval a X.env)]:=by rfl):
  PI X (.Tuple UP kt tp) (.Call (.Name "enumerate" p) [a] [] pos) (G9 X.K ta):=by
 refine⟨?_⟩;intro MC s σ H R I h;refine Call_ (io I hg hm nL (LL (cg (ha pos MC s σ H _ I h) fun us s1 hZZ=>?_) hs rfl));obtain⟨vs,H1,I1,r1,q1⟩:=hZZ;obtain⟨l,e,⟨xs,hx⟩,q⟩:=q1;subst e;cases r1 with
 |cons r rr=>
  cases rr;cases r;obtain⟨Uy,VT,p1,z1⟩:=I1.list hx;refine call_enumerate_list p1.isList fun h' a1 a2 a3 a4=>?_;refine K_ a1 ?_;refine⟨_,[s1.heap.objs.size+1,s1.heap.objs.size],_,_,H1,rfl,I1.kept (t':=s1.toks) a4,wY (RY (Mn _)),⟨⟨_,a1⟩,a2⟩,fun b hb=>?_,q⟩;have Ve:s1.heap.objs.size<=b:=by
   simp only[KH,KY,j_]at hb;rcases hb with e|e<;>rw[e]
   ·exact t_ _ _
   ·exact KO _
  exact I1.fpOk Ve (I1.hok.fresh Ve)
end
def rC{K:ZF}{l:Ul}{xs:Uv}{g:TG}{tb:TS}{D:gD}{σ:St}{H:Hp}(Pv:Nat->St->Hp->Prop)(h0:Pv 0 σ H)(hl:∀i σ H,i<=xs.length->Pv i σ H->OO K H l xs)
  (hs:∀i x σ H T,xs[i]?=some x->H T=none->Pv i σ H->g (.ref T) σ (aM H T (.tup [.int i,x])) fun σ2 H2=>tb {D with nx:=Pv (i+1),ct:=Pv (i+1),bk:=D.nx} σ2 H2) (hd:∀σ H,Pv xs.length σ H->D.nx σ H) :
  ∃W:Nat->Nat->St->Hp->Prop,(∃m,W 0 m σ H)/\∀i m σ H,W i m σ H->
   ((Gy K l).stop i H/\D.nx σ H)\/((Gy K l).go i H/\∃N:St->Hp->Prop,(∀σ' H',N σ' H'->∃m',m'<m/\W (i+1) m' σ' H')/\∀x H',(Gy K l).yld i H x H'->g x σ H' fun σ2 H2=>tb {D with nx:=N,ct:=N,bk:=D.nx} σ2 H2):=by
 refine⟨fun i m σ H=>m=xs.length-i/\i<=xs.length/\Pv i σ H,⟨xs.length,by simp,Lh _,h0⟩,?_⟩;rintro i m σ H ⟨rfl,hi,p⟩;have q:=hl i σ H hi p;by_cases MP:i<xs.length
 ·refine .inr ⟨⟨xs,xs[i],q,by simp[MP]⟩,Pv (i+1),fun σ' H' p'=>⟨xs.length-(i+1),zo,rfl,MP,p'⟩,fun v H' y=>?_⟩;obtain⟨T,x,e1,hT,e2,hy⟩:=y;subst e1 e2;exact hs i x σ H T (hy xs q) hT p
 ·have e:i=xs.length:=by lia
  subst e;exact .inl ⟨⟨xs,q,KO _⟩,hd σ H p⟩
section
def tD:ff X (.type "dict") (fun xs H Q=>∃(d:Ul)(kvs:List (cQ×V)),xs=[.ref d]/\H d=some (.dK kvs)/\∀a,H a=none->Q (.ref a) (aM H a (.dK kvs))):=by
 intro MC s σ H xs us Q I r h;obtain⟨d,kvs,rfl,hd,q⟩:=h;obtain⟨u,rfl,rx⟩:=il r;cases rx;obtain⟨hz,hs,vs,Uz,dd⟩:=yq I.hok hd;refine PySem.kt_call_dict hs dd (by rw[<-Uz.length];exact hz) fun h' ZO hsb=>?_;have hk:∀b o,s.heap.get? b=some o->h'.get? b=some o:=fun b o e=>hsb.extBut b o (Lk (K1 e)) (KE _ e);have hbig:=I.big;have e:s={s with toks:=s.toks}:=by cases s;rfl
 refine⟨.ref s.heap.objs.size,_,I.laid (t':=s.toks) (a:=s.heap.objs.size) (o:=.dK kvs) hk (KO _) ?_,rfl,q _ (I.hok.fresh (KO _))⟩;exact tu hz (by
  have:¬s.heap.objs.size=sysModules:=RY hbig;simpa using this) Uz ZO
end
end L2
namespace PySem
open Sem (wp)
def tupIt(l:Ul):Obj:={cls:=.type "tuple_iterator",data:=.fields #[.ref l,.int 0 0]}
def enumOver(it:Ul):Obj:={cls:=.type "enumerate",data:=.fields #[.none,.bool false,.ref it,rawInt 0,.none,.none]}
def Q6(l:Ul)(MQ:Array Uk)(n:Nat)(od:Option Ul)(os:Array (Option Uk)):Meets (Builtin.«enumerate.__new__» ⟨[.type "enumerate",.ref l],[]⟩) (fun _ R s=>
  s.heap.get? l=some {cls:=.type "tuple",dict:=od,data:=.seq MQ n,slots:=os}/\R (.ok (.ret (.ref (s.heap.push (tupIt l)).objs.size))) {s with heap:=(s.heap.push (tupIt l)).push (enumOver s.heap.objs.size)}):=
 .of_wp fun prog w A R s Xr=>by
  rcases s with⟨hp,gs,dr,tk,sys⟩;have there:=Xr.1;have WD:=Xr.2;have under:=sub_enumerate;have VC:hp.IsTuple l MQ:=⟨_,there,rfl,n,rfl⟩
  wp_walk using x_ there
  refine wpAny_stack_any fun _=>i_ ?_;split
  ·rename_i c _ _ _ _ _;rcases hb:(c==Value.type "enumerate")with _|_<;>(wp_walk using x_ there,I_ VC;exact⟨_,rfl,WD⟩)
  ·(wp_walk using x_ there,I_ VC;exact⟨_,rfl,WD⟩)
section
def enum_of_tuple(VC:s.heap.IsTuple l MQ)
  (h:Q (.ref (s.heap.objs.size+1)) {s with heap:=(s.heap.push (tupIt l)).push (enumOver s.heap.objs.size)}):wpAny (model prog w) A (call (.type "enumerate") [.ref l]) Q E s:=by
 obtain⟨o,there,Fz,n,Zp⟩:=VC;cases o with
 |mk oc od odt UN=>
  dsimp only at Fz Zp;subst Fz Zp;have sz:(s.heap.push (tupIt l)).objs.size=s.heap.objs.size+1:=L9 ..;have lies:((s.heap.push (tupIt l)).push (enumOver s.heap.objs.size)).get? (s.heap.objs.size+1)=some (enumOver s.heap.objs.size):=sz▸K9 (s.heap.push (tupIt l)) rfl;refine callType_new F.called_enumerate zd (F.typeCall_enumerate_1 _) (F.newCall_enumerate_1 _) (fun x=>F.args_object_init_2 x _) F.entry_enumerate_new (Q6 l MQ n od UN) ⟨there,?_⟩;show _/\_;rw[sz];exact⟨⟨_,lies,rfl⟩,h⟩
end
section
def Pl(Wa:s.heap.IsTupleIter it t i)(ht:s.heap.IsTuple t MQ)(hx:MQ[i]?=some x)
  (hQ:∀h',h'.IsTupleIter it t (i+1)->Heap.SameBut it s.heap h'->Q x {s with heap:=h'}):wpAny (model prog w) A (Builtin.SmallTypes.nextOf (.ref it)) Q E s:=by
 obtain⟨o,ho,hc,hd⟩:=id Wa;obtain⟨ol,hol,_,nl,YS⟩:=ht;unfold Builtin.SmallTypes.nextOf;refine c_ (r_ (name:=Str.ofString "__next__") Wa.typeIs u_
  (F_ u_ Wa.typeIs F.entry_tuple_iterator_next ?_ (F.args_tuple_iterator_next_1 _)))
 show wpAny _ _ (field (.ref it) 0>>=_) _ _ s;refine c_ (p_ ho hd (x:=.ref t) rfl ?_);show wpAny _ _ (if(Value.ref t==Value.none)=true then _ else _) _ _ s;rw[e_ (show¬((Value.ref t==Value.none)=true)from K5)];show wpAny _ _ (field (.ref it) 1>>=_) _ _ s;refine c_ (p_ ho hd (x:=.int i 0) rfl ?_);show wpAny _ _ (seqItems? (.ref t)>>=_) _ _ s;refine c_ (w_ hol YS ?_);simp only[Lu,hx];refine c_ (v_ ho hd (by simp) (i_ ⟨x,rfl,i_ (hQ _ ?_ (l_ ..))⟩));exact⟨_,m_ _ ho (Obj.isFreed_of_fields (Obj.data_mapFields hd _)),(Obj.cls_mapFields ..).trans hc,by
  rw[Obj.data_mapFields hd];simp[rawInt]⟩
def nextOf_tuple_end(hh:A.handled=none)(Wa:s.heap.IsTupleIter it t i)(ht:s.heap.IsTuple t MQ)(hx:MQ[i]?=none)
  (hE:∀h' e,Heap.ExtBut it s.heap h'->(∃o,h'.get? e=some o/\o.cls=.type "StopIteration")->E (.ref e) {s with heap:=h'}):wpAny (model prog w) A (Builtin.SmallTypes.nextOf (.ref it)) Q E s:=by
 obtain⟨o,ho,hc,hd⟩:=id Wa;obtain⟨ol,hol,_,nl,YS⟩:=ht;unfold Builtin.SmallTypes.nextOf;refine c_ (r_ (name:=Str.ofString "__next__") Wa.typeIs u_
  (F_ u_ Wa.typeIs F.entry_tuple_iterator_next ?_ (F.args_tuple_iterator_next_1 _)))
 show wpAny _ _ (field (.ref it) 0>>=_) _ _ s;refine c_ (p_ ho hd (x:=.ref t) rfl ?_);show wpAny _ _ (if(Value.ref t==Value.none)=true then _ else _) _ _ s;rw[e_ (show¬((Value.ref t==Value.none)=true)from K5)];show wpAny _ _ (field (.ref it) 1>>=_) _ _ s;refine c_ (p_ ho hd (x:=.int i 0) rfl ?_);show wpAny _ _ (seqItems? (.ref t)>>=_) _ _ s;refine c_ (w_ hol YS ?_);simp only[Lu,hx];refine c_ (wpAny_rule (c_ (v_ ho hd (by simp) ?_)));show wpAny _ _ (newExc (.type "StopIteration") []>>=_) _ _ _;refine c_ ?_;simp only[newExc,newTuple];refine c_ (Sa ?_ (by size_fits));refine c_ (m:=firstArgMember _ _) (wpAny_of_eq (a:=Value.none) (by first|rfl|(simp only[firstArgMember];rfl)) ?_);refine Sa ?_ (by size_fits);simp only[raiseNew];refine c_ (wpAny_handled ?_);first|rw[show A.in1.handled=none from hh]|rw[hh]
 refine c_ (i_ (wpAny_throw ?_));exact hE _ _ (((l_ ..).extBut.push _).push _) ⟨_,K9 _ rfl,rfl⟩
end
def drawsTuple(hh:A.handled=none)(it l:Ul)(MM:l≠it)(MQ:Array Uk):
  Draws prog w A it [it,l] MQ.size (fun i v=>MQ[i]?=some v) (fun i h=>h.IsTupleIter it l i/\h.IsTuple l MQ) where
 live:=fun _ _ st=>let⟨o,ho,_⟩:=st.1;⟨o,ho⟩
 frame:=fun _ _ _ st hk=>⟨let⟨o,ho,r⟩:=st.1;⟨o,hk it (by simp) o ho,r⟩,let⟨o,ho,r⟩:=st.2;⟨o,hk l (by simp) o ho,r⟩⟩
 item:=fun i s Q E hi st hQ=>by
  refine Pl st.1 st.2 (x:=MQ[i]) (by simp[hi]) fun h' hit' hs'=>?_;exact hQ _ h' s.toks (by simp[hi]) ⟨hit',st.2.extBut hs'.extBut MM⟩ hs'
 done:=fun s Q E st hE=>nextOf_tuple_end hh st.1 st.2 (by simp) hE
end PySem
namespace L2
open PySem PySem.Spec PyProof.Rows
variable{i:Nat}{h h':Heap}
def Hd{it l:Ul}(a:h.IsTupleIter it l i)(k:∀o,h.get? it=some o->h'.get? it=some o):h'.IsTupleIter it l i:=let⟨o,b,c⟩:=a;⟨o,k o b,c⟩
variable{MQ:Array Uk}
def DA{it l:Ul}(t:h.IsTuple l MQ)(a:h.IsTupleIter it l i):l≠it:=by
 rintro rfl;obtain⟨o,x,c,_⟩:=t;obtain⟨o',x',c',_⟩:=a;rw[x]at x';cases x';rw[c]at c';injection c' with z;exact absurd z zd
def wZ{prog:Uo}{w:Up}{A:Uq}{E:Uk->Um->Prop}{s:Um}{e it l:Ul}{old:Uk}{Q:Option Uk->Um->Prop}(hh:A.handled=none)(he:IsEnum s.heap e it i old)(h1:s.heap.IsTupleIter it l i)(VC:s.heap.IsTuple l MQ)(hi:MQ.size<=i)
  (hQ:∀h',Heap.ExtBut it s.heap h'->Q none {s with heap:=h'}):wpAny (model prog w) A (pyNext (.ref e)) Q E s:=by
 have hT:s.TypeIs (.ref e) "enumerate":=⟨_,he,rfl⟩;unfold pyNext;refine c_ (wpAny_attempt (r_ (name:=Str.ofString "__next__") hT R8 (F_ R8 hT PySem.F.entry_enumerate_next ?_ (PySem.F.args_enumerate_next_1 _))));show wpAny _ _ (field (.ref e) 2>>=_) _ _ _;refine c_ (p_ he rfl (x:=.ref it) rfl ?_);refine c_ (PySem.nextOf_tuple_end hh h1 VC (Array.getElem?_eq_none hi) fun h' x Yb VE=>?_);obtain⟨o,ho,hc⟩:=VE;refine c_ (wpAny_isInstance (T:="StopIteration") (b:=true) ⟨o,ho,hc⟩ isSubtype_stop ?_);exact i_ (hQ _ Yb)
def yz(K:ZF)(l:Ul):It:=
 ⟨fun i H=>∃xs x,ON K H l xs/\xs[i]?=some x,
  fun i H v H'=>∃T x,v=.ref T/\H T=none/\H'=aM H T (.tup [.int i,x])/\∀xs,ON K H l xs->xs[i]?=some x,
  fun i H=>∃xs,ON K H l xs/\xs.length<=i⟩
def tE{P:Uo}{w:Up}{K:ZF}{UP:List Expr}{kt:Nat}{tp:Pos}{e it l:Ul}(MM:e≠it):
  on P w K (.Tuple UP kt tp) (yz K l) [e,it] e (fun i h=>(∃old,IsEnum h e it i old)/\h.IsTupleIter it l i) where
 mem:=by simp
 obj:=fun i h st b hb=>by
  obtain⟨⟨old,he⟩,⟨o1,h1,_,d1⟩⟩:=st;simp at hb;rcases hb with rfl|rfl
  ·exact⟨_,he,fun v q=>by cases q⟩
  ·exact⟨_,h1,fun v q=>by rw[d1]at q;cases q⟩
 keep:=fun i h h' st k=>by
  obtain⟨⟨old,he⟩,h1⟩:=st;exact⟨⟨old,k e (by simp) _ he⟩,Hd h1 fun o q=>k it (by simp) o q⟩
 item:=by
  intro X hP hw hK hc i MC s σ H E I hf st hg;subst hP hw hK;obtain⟨xs,x,hx,ex⟩:=hg;obtain⟨⟨old,he⟩,h1⟩:=st;obtain⟨Uy,VT,p1,z1⟩:=I.tuple hx;obtain⟨u1,Y0,Ze⟩:=VT.get ex;have VC:s.heap.IsTuple l Uy.toArray:=let⟨o,a,b,n,c⟩:=p1;⟨o,a,b,n,c⟩;have nl:l≠it:=DA VC h1;have ne2:e∉[it,l]:=by
   intro m;simp only[KH,KY,j_]at m;rcases m with m|m
   ·exact MM m
   ·subst m;obtain⟨o,a,b,_⟩:=VC;rw[show s.heap.get? e=_ from he]at a;cases a;injection b with z;exact absurd z zd
  have MP:i<Uy.toArray.size:=by
   have:=(Kx.mp Y0).1;simpa using this
  refine wpAny_pyNext_enum_itemD (PySem.drawsTuple (A:=X.A.in1) (show X.A.in1.handled=none from I.ok.hd hc) it l nl Uy.toArray) he ⟨h1,VC⟩ MP MM ne2 fun v h' tk px a1 a2' a3 a4 a5=>⟨_,rfl,?_⟩;have evu:v=u1:=by
   have e2:Uy.toArray[i]?=some u1:=by simpa using Y0
   rw[e2]at px;exact(Lc px).symm
  subst evu;have a2:=a2'.1;refine wpAny_letOwnedTupleGo_enum a1 fun Wu b1 b2=>?_;have hT:H s.heap.objs.size=none:=I.hok.fresh (KO _);have VU:∀b o,s.heap.get? b=some o->b≠s.heap.objs.size:=fun b o q=>Lk (K1 q);refine⟨.ref s.heap.objs.size,aM H s.heap.objs.size (.tup [.int i,x]),?_,rfl,⟨s.heap.objs.size,x,rfl,hT,rfl,fun xs' h=>by rw[I.tuple_inj h hx];exact ex⟩,?_,fun b hb=>?_⟩
  ·show OR X MC σ (aM H s.heap.objs.size (.tup [.int i,x])) {s with heap:=Wu,toks:=tk+1};refine OR.turnedS (s:=s) (h':=Wu) (t':=tk+1) (ch:=[e,it]) I (fun b hb=>hf b hb) (fun b o hc q=>?_) (fun b o q=>by rw[au (ao q hT)];exact q) (fun b hb n=>by rw[au (Lk hb)];exact n) fun b o n q=>?_
   ·simp at hc;exact b2.extBut b o hc.1 (a5 b o hc.1 hc.2 q)
   ·by_cases eb:b=s.heap.objs.size
    ·subst eb;rw[ae]at q;cases q;refine⟨OT,[.int i tk,v],.cons ⟨_,rfl⟩ (.cons Ze .nil),_,b2.extBut _ _ ?_ a3,rfl,_,rfl⟩;exact fun z=>VU e _ he z.symm
    ·rw[au eb,n]at q;cases q
  ·refine⟨⟨_,b1⟩,Hd a2 fun o q=>b2.extBut _ o MM.symm q⟩
  ·have n:=(hf b hb).1;have:b≠s.heap.objs.size:=by
    simp at hb;obtain⟨_,q1,_⟩:=id h1;rcases hb with rfl|rfl
    ·exact VU _ _ he
    ·exact VU _ _ q1
   rw[au this];exact n
 done:=by
  intro X hP hw hK hc i MC s σ H E I hf st hg;subst hP hw hK;obtain⟨xs,hx,hl⟩:=hg;obtain⟨⟨old,he⟩,h1⟩:=st;obtain⟨Uy,VT,p1,z1⟩:=I.tuple hx;have e1:=VT.length;have VC:s.heap.IsTuple l Uy.toArray:=let⟨o,a,b,n,c⟩:=p1;⟨o,a,b,n,c⟩;have nl:l≠it:=DA VC h1;refine wZ (I.ok.hd hc) he h1 VC (by simp;lia) fun h' k=>⟨rfl,?_⟩;obtain⟨f0,f1,f2,f3,f4,f5⟩:=hf it (by simp);exact I.turned (t':=s.toks) (fun b o hb q=>k b o hb q) f0 f1 f3 f4 f5
 self:=fun _ _ _ _ _ st h=>K_ st.1.choose_spec h
section
inductive vL(K:ZF)(R:It->Hp->Prop)(vs:Uv)(H1:Hp):Prop
 |mk(l:_):vs=[.ref l]->(∃xs,ON K H1 l xs)->R (yz K l) H1->vL K R vs H1
def EI(K:ZF)(ta:TA):TI:=fun σ H R=>ta σ H fun vs H1=>vL K R vs H1
def lB{UP:List Expr}{kt:Nat}{tp:Pos}{a:Expr}{ta:TA}{p pos:Pos}(hg:Gl X "enumerate")(hm:X.mg "enumerate"=none)(ha:PA X [a] ta)(hs:starEach [a] X.env=[(false,eval a X.env)]:=by rfl):
  PI X (.Tuple UP kt tp) (.Call (.Name "enumerate" p) [a] [] pos) (EI X.K ta):=by
 refine⟨?_⟩;intro MC s σ H R I h;refine Call_ (io I hg hm nL (LL (cg (ha pos MC s σ H _ I h) fun us s1 hZZ=>?_) hs rfl));obtain⟨vs,H1,I1,r1,q1⟩:=hZZ;obtain⟨l,e,⟨xs,hx⟩,q⟩:=q1;subst e;cases r1 with
 |cons r rr=>
  cases rr;cases r;obtain⟨Uy,VT,p1,z1⟩:=I1.tuple hx;have VC:s1.heap.IsTuple l Uy.toArray:=let⟨o,a,b,n,c⟩:=p1;⟨o,a,b,n,c⟩;refine PySem.enum_of_tuple VC ?_;have sz:(s1.heap.push (PySem.tupIt l)).objs.size=s1.heap.objs.size+1:=L9 ..;have a1:IsEnum ((s1.heap.push (PySem.tupIt l)).push (PySem.enumOver s1.heap.objs.size)) (s1.heap.objs.size+1) s1.heap.objs.size 0 .none:=sz▸K9 (s1.heap.push (PySem.tupIt l)) rfl;have a2:((s1.heap.push (PySem.tupIt l)).push (PySem.enumOver s1.heap.objs.size)).IsTupleIter s1.heap.objs.size l 0:=⟨_,KE _ (K9 _ rfl),rfl,rfl⟩;have a4:∀b o,s1.heap.get? b=some o->((s1.heap.push (PySem.tupIt l)).push (PySem.enumOver s1.heap.objs.size)).get? b=some o:=fun b o x=>KE _ (KE _ x);refine K_ a1 ?_;refine⟨_,[s1.heap.objs.size+1,s1.heap.objs.size],_,_,H1,rfl,I1.kept (t':=s1.toks) a4,tE (RY (Mn _)),⟨⟨_,a1⟩,a2⟩,fun b hb=>?_,q⟩;have Ve:s1.heap.objs.size<=b:=by
   simp only[KH,KY,j_]at hb;rcases hb with e|e<;>rw[e]
   ·exact t_ _ _
   ·exact KO _
  exact I1.fpOk Ve (I1.hok.fresh Ve)
end
def jA{K:ZF}{l:Ul}{xs:Uv}{g:TG}{tb:TS}{D:gD}{σ:St}{H:Hp}(Pv:Nat->St->Hp->Prop)(h0:Pv 0 σ H)(hl:∀i σ H,i<=xs.length->Pv i σ H->ON K H l xs)
  (hs:∀i x σ H T,xs[i]?=some x->H T=none->Pv i σ H->g (.ref T) σ (aM H T (.tup [.int i,x])) fun σ2 H2=>tb {D with nx:=Pv (i+1),ct:=Pv (i+1),bk:=D.nx} σ2 H2) (hd:∀σ H,Pv xs.length σ H->D.nx σ H) :
  ∃W:Nat->Nat->St->Hp->Prop,(∃m,W 0 m σ H)/\∀i m σ H,W i m σ H->
   ((yz K l).stop i H/\D.nx σ H)\/((yz K l).go i H/\∃N:St->Hp->Prop,(∀σ' H',N σ' H'->∃m',m'<m/\W (i+1) m' σ' H')/\∀x H',(yz K l).yld i H x H'->g x σ H' fun σ2 H2=>tb {D with nx:=N,ct:=N,bk:=D.nx} σ2 H2):=by
 refine⟨fun i m σ H=>m=xs.length-i/\i<=xs.length/\Pv i σ H,⟨xs.length,by simp,Lh _,h0⟩,?_⟩;rintro i m σ H ⟨rfl,hi,p⟩;have q:=hl i σ H hi p;by_cases MP:i<xs.length
 ·refine .inr ⟨⟨xs,xs[i],q,by simp[MP]⟩,Pv (i+1),fun σ' H' p'=>⟨xs.length-(i+1),zo,rfl,MP,p'⟩,fun v H' y=>?_⟩;obtain⟨T,x,e1,hT,e2,hy⟩:=y;subst e1 e2;exact hs i x σ H T (hy xs q) hT p
 ·have e:i=xs.length:=by lia
  subst e;exact .inl ⟨⟨xs,q,KO _⟩,hd σ H p⟩
end L2
namespace L3
open PySem L2
def top(i:Nat):Stmt:=PySem.Challenge.pw_rowsbeneath_k51_ways_of_rows.main.body.getD i (.Pass ⟨0,0,0,0⟩)
abbrev gY:Stmt:=top 37
abbrev tH:Stmt:=top 5
abbrev oJ:Stmt:=top 6
abbrev nN:Stmt:=top 8
abbrev EJ:Stmt:=top 22
abbrev fr:Stmt:=top 66
abbrev jB:Stmt:=top 67
abbrev gr:Stmt:=top 68
abbrev iy:Stmt:=top 69
abbrev jC:Stmt:=top 70
abbrev gI:Stmt:=top 71
abbrev iz:Stmt:=top 72
abbrev jD:Stmt:=top 73
abbrev gJ:Stmt:=top 74
abbrev jE:Stmt:=top 75
abbrev gZ:Stmt:=top 76
abbrev lC:Stmt:=top 77
abbrev lD:Stmt:=top 78
abbrev jF:Stmt:=top 79
abbrev jG:Stmt:=top 80
abbrev lE:Stmt:=top 81
abbrev kj:Stmt:=top 83
abbrev gu:Stmt:=top 85
abbrev lF:Stmt:=top 86
abbrev iA:Stmt:=top 87
abbrev gK:Stmt:=top 88
abbrev iB:Stmt:=top 89
abbrev km:Stmt:=top 90
abbrev oK:Stmt:=top 91
abbrev tI:Stmt:=top 92
abbrev tJ:Stmt:=top 93
abbrev oM:Stmt:=top 94
abbrev oN:Stmt:=top 100
abbrev yA:Stmt:=top 101
abbrev EK:Stmt:=top 102
abbrev iC:Stmt:=top 103
abbrev yB:Stmt:=top 105
abbrev oO:Stmt:=top 106
abbrev yC:Stmt:=top 107
abbrev tK:Stmt:=top 108
abbrev vM:Stmt:=top 109
abbrev oP:Stmt:=top 110
abbrev tO:Stmt:=top 111
abbrev oQ:Stmt:=top 112
abbrev vN:Stmt:=top 113
abbrev tP:Stmt:=top 114
abbrev oR:Stmt:=top 115
abbrev lG:Stmt:=top 116
abbrev jH:Stmt:=top 117
abbrev jI:Stmt:=top 118
abbrev iD:Stmt:=top 119
abbrev oS:Stmt:=top 129
abbrev w6:Stmt:=top 130
abbrev tQ:Stmt:=top 9
abbrev EL:Stmt:=top 10
abbrev tR:Stmt:=top 24
abbrev oT:Stmt:=top 39
abbrev iE:Stmt:=top 40
abbrev nO:Stmt:=top 42
abbrev BE:Stmt:=top 45
abbrev eK:Stmt:=top 46
abbrev yD:Stmt:=top 47
abbrev oU:Stmt:=top 48
abbrev ko:Stmt:=top 49
abbrev lH:Stmt:=top 50
abbrev oV:Stmt:=top 52
abbrev yE:Stmt:=top 53
abbrev oW:Stmt:=top 54
abbrev lI:Stmt:=top 55
abbrev lJ:Stmt:=top 120
abbrev oX:Stmt:=top 121
abbrev iF:Stmt:=top 122
abbrev oY:Stmt:=top 123
abbrev tU:Stmt:=top 124
abbrev oZ:Stmt:=top 125
abbrev yF:Stmt:=top 126
abbrev lK:Stmt:=top 127
abbrev vO:Stmt:=top 128
def Fn(P:Uo)(w:Up)(K:ZF)(mg:Str->Option Uk)(base:Heap)(x:Str)(k:Nat)(ps:Us)(sp:Sp):Prop:=
 ∃(f:Ul)(fd:Ur),mg x=some (.ref f)/\PySem.W.keepIn K (.ref f)=true/\Pb K fd ps []/\OQ P w K mg base bQ k f fd ps sp
def Ko(sp:Sp)(t:TA):TE:=fun σ H Q=>t σ H fun vs H1=>sp vs H1 Q E0
def ax(h:Fn X.prog X.w X.K X.mg X.base x k ps sp)(hr:OU k X.A)(hg:Gl X x)(ha:PA X (e::es) t)(Wb:(x==("__debug__":Str))=false:=by decide)
  (he:starEach (e::es) X.env=(false,eval e X.env)::starEach es X.env:=by rfl) (Vc:(backTo pos (starEach es X.env)).any (·.1)=false:=by rfl):PE X (.Call (.Name x p) (e::es) [] pos) (Ko sp t):=by
 obtain⟨f,fd,hm,hk,hb,F⟩:=h;refine⟨?_⟩;intro MC s σ H Q I q;have ha':PA X (e::es) t:=ha;refine vC (dvs:=[]) (E:=E0) F hr hg hm hk hb .nil iV ha' Wb he Vc MC s σ H Q I ?_;show t σ H fun vs H1=>sp (vs++[]) H1 Q E0;have e2:(fun vs H1=>sp (vs++[]) H1 Q E0)=fun vs H1=>sp vs H1 Q E0:=by
  funext vs H1;rw[Lm]
 rw[e2];exact q
def EM(h:Fn X.prog X.w X.K X.mg X.base x k [] sp)(hr:OU k X.A)(hg:Gl X x)(Wb:(x==("__debug__":Str))=false:=by decide):PE X (.Call (.Name x p) [] [] pos) (fun _ H Q=>sp [] H Q E0):=by
 obtain⟨f,fd,hm,hk,hb,F⟩:=h;refine⟨?_⟩;intro MC s σ H Q I q;exact x9 (dvs:=[]) (E:=E0) F hr hg hm hk hb .nil iV Wb MC s σ H Q I q
def aj(h:H p=none):OM H (aM H p o):=fun b u e=>by rw[au (ao e h)];exact e
def nw{H H':Hp}{a:Ul}{o:HO}(n:H a=none)(z:aM H a o=H'):OM H H'/\H' a=some o:=z▸⟨aj n,ae⟩
def cj(hp:H p=none)(s:OM H H2):OM H (aM H2 p o):=fun b u e=>by rw[au (ao e hp)];exact s b u e
section
variable{b:Bool}{A B:Prop}
def bi(e:b=false)(h:B):if b=true then A else B:=by rw[e];exact bP h
def bF(e:b=true)(h:A):if b=true then A else B:=by rw[e];exact fC h
def i0{l:Ut}{i:Nat}(h:i<l.length):oz (S l).cps.toList (i:Int)=some l[i]:=bf (by show l.toArray.toList[i]?=_;simp[h])
def He:("":Str)=S []:=by decide +kernel
def yG(z:Str):z=S z.cps.toList:=by
 show z=⟨z.cps.toList.toArray⟩;simp
def bY(a b:Ut):S a++S b=S (a++b):=by
 show(⟨(S a).cps++(S b).cps⟩:Str)=⟨(a++b).toArray⟩
 congr 1
 simp[S]
def dj:bootBuiltins "isinstance"=some (.builtin "isinstance"):=by decide +kernel
def cF:bootBuiltins "list"=some (.type "list"):=by decide +kernel
def eE:bootBuiltins "str"=some (.type "str"):=by decide +kernel
def lL:bootBuiltins "bool"=some (.type "bool"):=by decide +kernel
def bG:bootBuiltins "tuple"=some (.type "tuple"):=by decide +kernel
def eG:bootBuiltins "all"=some (.builtin "all"):=by decide +kernel
structure Bl(mg:Str->Option Uk):Prop where
 len:mg "len"=none
 int:mg "int"=none
 max:mg "max"=none
 min:mg "min"=none
 range:mg "range"=none
 isinstance:mg "isinstance"=none
 list:mg "list"=none
 str:mg "str"=none
 bool:mg "bool"=none
 tuple:mg "tuple"=none
 all:mg "all"=none
def o0(x y z:Int):HO:=.lst [.int x,.int y,.int z]
def OX(H:Hp)(p:Ul):Prop:=∃x y z:Int,H p=some (o0 x y z)
def O4(p:Ul)(H H':Hp):Prop:=∀b o,H b=some o->b≠p->H' b=some o
def O4.refl(p:Ul)(H:Hp):O4 p H H:=fun _ _ e _=>e
def O4.trans(a:O4 p H H1)(b:O4 p H1 H2):O4 p H H2:=fun c o e n=>b c o (a c o e n) n
def O4.same(a:O4 p H H1)(b:OM H1 H2):O4 p H H2:=fun c o e n=>b c o (a c o e n)
def dS(b:OM H H1):O4 p H H1:=fun c o e _=>b c o e
def OX.same(a:OX H p)(b:OM H H1):OX H1 p:=by obtain⟨x,y,z,e⟩:=a;exact ⟨x,y,z,b _ _ e⟩
def OX.ne(a:OX H p)(h:H q=none):p≠q:=by obtain⟨_,_,_,e⟩:=a;exact ao e h
inductive tV(K:ZF)(vs:Uv)(H:Hp)(Q:VK)(Z3:XK):Prop
 |mk(a:Ul)(ns:List Int)(k:Int):vs=[.ref a,.int k]->OO K H a (ns.map V.int)->0<=k->(∀c:Int,Q (.int c) H)->tV K vs H Q Z3
inductive lM(vs:Uv)(H:Hp)(Q:VK)(Z3:XK):Prop
 |mk(c:Int):vs=[.int c]->(∀(p:Ul)H',H p=none->OM H H'->OX H' p->Q (.ref p) H')->lM vs H Q Z3
inductive eO(vs:Uv)(H:Hp)(Q:VK)(Z3:XK):Prop
 |mk(p:Ul)(m:Nat):vs=[.ref p,.int m]->OX H p->0<m->m<18446744073709551616->(∀(r:Nat)H',r<m->OX H' p->O4 p H H'->Q (.int r) H')->eO vs H Q Z3
section
def EQ:az [S0,Tk] [S0,Tk] (ak yB):=cv zk
def BF(F:O0 K "_law_cell" "_law_cell" yB f fd)(T:Bl mg):OQ P w K mg base bQ 1 f fd [S0,Tk] (tV K):=by
 have ZZ:=EQ
 walk_at "o"
 ·obtain⟨a,ns,k,rfl,hS,h0,q⟩:=h;refine⟨_,ac (aT (aq eR (pv 1) (aI aL (by rfl) T.len KW (aa (pv 0) ab))) (ag (aw (aB aU (pv 0) (pv 1)))) aG)
   (ag (aw (aH bX (aH gp af (pv 1)) af))),?_⟩
  refine⟨_,rfl,_,rfl,a,_,rfl,.inl hS,_,_,rfl,rfl,_,rfl,?_⟩;refine ce (fun h=>?_) (fun h=>?_)
  ·have hl:k<((ns.map V.int).length:Int):=h_ h;rw[Ky]at hl;obtain⟨n,rfl⟩:∃n:Nat,k=n:=⟨k.toNat,zo⟩;have hn:n<ns.length:=by lia
   refine⟨_,rfl,_,rfl,a,_,_,_,rfl,rfl,hS,bf (v:=.int ns[n]) (by simp[hn]),q _⟩
  ·exact⟨_,rfl,_,_,rfl,rfl,.inl ⟨zd,zd⟩,_,_,rfl,rfl,q _⟩
def yH:az [Tr] [Tr] (ak oO):=cv zk
def w8(F:O0 K "_law_stream" "_law_stream" oO f fd)(T:Bl mg):OQ P w K mg base bQ 1 f fd [Tr] lM:=by
 have ZZ:=yH
 walk_at "o"
 ·obtain⟨c,rfl,q⟩:=h;refine⟨_,ag (aw (aP (aa (aH gp (pv 0) (aY eZ (by rfl) T.int LC (aa (cb Dl (pv 0) (aH Eo af af)) ab)))
   (aa (aH fg (pv 0) af) (aa af ab))))),?_⟩
  refine⟨_,rfl,_,rfl,_,_,rfl,rfl,⟨zd,zd,zd⟩,_,_,rfl,rfl,.inr ⟨_,rfl,?_⟩⟩;refine⟨_,_,rfl,rfl,.inr (by split<;>decide),_,rfl,_,_,rfl,rfl,(by show(0:Int)<2147483629;decide),OT,fun l hl=>?_⟩;exact q l _ hl (aj hl) ⟨_,_,_,ae⟩
def Qp:az [Sj,SB,"_law_digit",Te] [Sj,SB] (ak yC):=cv zk
def rD(hm:0<m)(h:m<2^64):-(2^64)<n%m/\n%m<2^64:=by
 have:=R6 n (show m≠0 by lia);have:=RQ n hm;lia
def BG(F:O0 K "_law_take" "_law_take" yC f fd):OQ P w K mg base bQ 1 f fd [Sj,SB] eO:=by
 have ZZ:=Qp
 walk_at "o"
 ·obtain⟨p,m,rfl,⟨x,y,z,hp⟩,m0,m1,q⟩:=h;have F':∀(e x' y' z':Int)H1,0<=e->e<m->O4 p H H1->Q (.int e) (aM H1 p (o0 x' y' z')):=fun e x' y' z' H1 h0 h1 b=>by
   have:=q e.toNat (aM H1 p (o0 x' y' z')) zo ⟨_,_,_,ae⟩ (fun c o e n=>by rw[au n];exact b c o e n);rw[Int.toNat_of_nonneg h0]at this;exact this
  have b1:∀o,O4 p H (aM H p o):=fun o c u e n=>by rw[au n];exact e
  refine⟨_,ac (aT (aq kO (aB aU (pv 0) af) af)
    (ac (bL (i:=2) Qp.nd (aH fg (aB aU (pv 0) af) (pv 1)))
    (ac (df (aH yp (aB aU (pv 0) af) (pv 1)) (iq (pv 0) af fj))
    (ag (aw (pv 2))))) aG)
   (ac (df (aH bX (aB aU (pv 0) af) af) (iq (pv 0) af fj))
   (ac (bL (i:=3) Qp.nd (aH fg (aH bX (aH gp (aH bX (aB aU (pv 0) af) (aH gp af (aB aU (pv 0) af))) af) af) af))
   (ac (bL (i:=3) Qp.nd (aH fg (aH gp (pv 3) (pv 3)) af))
   (ag (aw (aH fg (aH oq (aH fg (aH bX (aH gp (pv 3) (pv 3)) (aH gp af (aB aU (pv 0) af))) af) af) (pv 1))))))),?_⟩
  refine⟨_,rfl,p,_,_,_,rfl,rfl,OO.of hp,rfl,_,_,rfl,rfl,_,rfl,?_⟩;refine ce (fun h=>?_) (fun h=>?_)
  ·refine⟨_,rfl,p,_,_,_,rfl,rfl,OO.of hp,rfl,_,rfl,_,_,rfl,rfl,(by show(0:Int)<(m:Int);lia),?_⟩;refine⟨_,rfl,p,_,_,_,rfl,rfl,OO.of hp,rfl,_,rfl,_,_,rfl,rfl,⟨by show(0:Int)<(m:Int);lia,by show(m:Int)<18446744073709551616;lia⟩,?_⟩;refine⟨_,rfl,p,_,_,_,rfl,rfl,hp,rfl,?_⟩;refine⟨_,rfl,?_⟩;exact F' _ _ _ _ _ (R6 _ zo) (RQ _ zo) (O4.refl _ _)
  ·refine⟨_,rfl,p,_,_,_,rfl,rfl,OO.of hp,rfl,_,_,rfl,rfl,?_⟩;refine⟨_,rfl,p,_,_,_,rfl,rfl,hp,rfl,?_⟩;refine⟨_,rfl,p,_,_,_,rfl,rfl,OO.of ae,rfl,_,rfl,p,_,_,_,rfl,rfl,OO.of ae,rfl,_,_,rfl,rfl,.inl ⟨zd,zd⟩,_,_,rfl,rfl,_,_,rfl,rfl,.inr ⟨zd,zd⟩,_,_,rfl,rfl,_,_,rfl,rfl,(by show(0:Int)<2147483647;decide),?_⟩;refine⟨_,rfl,_,rfl,_,_,rfl,rfl,.inl (rD zd zd),_,_,rfl,rfl,(by show(0:Int)<2147483629;decide),?_⟩;refine⟨_,rfl,_,rfl,_,_,rfl,rfl,.inl (rD zd zd),_,rfl,p,_,_,_,rfl,rfl,OO.of ae,rfl,_,_,rfl,rfl,.inl ⟨zd,zd⟩,_,_,rfl,rfl,_,_,rfl,rfl,(by show(0:Int)<2147483587;decide),_,_,rfl,rfl,⟨zd,zd⟩,_,rfl,_,_,rfl,rfl,(by show(0:Int)<(m:Int);lia),?_⟩;exact F' _ _ _ _ _ (R6 _ zo) (RQ _ zo) (O4.refl _ _)
end
end
def ay(l:Us):Uv:=l.map V.str
def cD(P:Uo)(w:Up)(K:ZF)(mg:Str->Option Uk)(base:Heap)(C:Ul)(nm:Str)(n:Nat)(ps:Us)(sp:Sp):Prop:=∃f fd,Bo K C nm f/\OQ P w K mg base bQ n f fd ps sp/\Pb K fd ps []
def Bc(l:Ul)(k:Nat)(me:Bool):List (Str×V):=[(S7,.ref l),(T_,.int k),("may_end",.bl me)]
structure O9(C:Ul)(H:Hp)(a l:Ul)(ts:Us)(k:Nat)(me:Bool):Prop where
 ob:∃dx,H a=some (.ins C dx (Bc l k me))
 tk:H l=some (.lst (ay (ts++[("":Str)])))
 le:ts.length<=1500
def OS(a:Ul)(H H':Hp):Prop:=∀b o,H b=some o->b≠a->H' b=some o
def OS.refl(p:Ul)(H:Hp):OS p H H:=fun _ _ e _=>e
def OS.trans(a:OS p H H1)(b:OS p H1 H2):OS p H H2:=fun c o e n=>b c o (a c o e n) n
def OS.same(a:OS p H H1)(b:OM H1 H2):OS p H H2:=fun c o e n=>b c o (a c o e n)
def bU(b:OM H H1):OS p H H1:=fun c o e _=>b c o e
def O9.same(h:O9 C H a l ts k me)(s:OM H H'):O9 C H' a l ts k me:=⟨let⟨dx,e⟩:=h.ob;⟨dx,s _ _ e⟩,s _ _ h.tk,h.le⟩
def O9.ne(h:O9 C H a l ts k me):l≠a:=by
 rintro rfl;obtain⟨dx,e⟩:=h.ob;rw[h.tk]at e;cases e
structure Rc(K:ZF)(C:Ul):Prop where
 cl:QH K C
 n1:O1 K C S7
 n2:O1 K C T_
 n3:O1 K C "may_end"
inductive tW(C:Ul)(vs:Uv)(H:Hp)(Q:VK)(Z3:XK):Prop
 |mk(a l ts k me z:_):vs=[.ref a]->O9 C H a l ts k me->(ts++[("":Str)])[k]?=some z->Q (.str z) H->tW C vs H Q Z3
inductive ES(C:Ul)(vs:Uv)(H:Hp)(Q:VK)(Z3:XK):Prop
 |mk(a l ts k me z:_):vs=[.ref a]->O9 C H a l ts k me->(ts++[("":Str)])[k]?=some z->(∀H',O9 C H' a l ts (k+1) me->OS a H H'->Q (.str z) H')->ES C vs H Q Z3
inductive tX(K:ZF)(C:Ul)(vs:Uv)(H:Hp)(Q:VK)(Z3:XK):Prop
 |mk(a l ts k me z p xs:_):vs=[.ref a,.ref p]->O9 C H a l ts k me->(ts++[("":Str)])[k]?=some z->(OO K H p (ay xs)\/ON K H p (ay xs))->z∈xs->(∀H',O9 C H' a l ts (k+1) me->OS a H H'->Q (.str z) H')->tX K C vs H Q Z3
abbrev yI:Stmt:=cu fr 1
abbrev Jq:Stmt:=cu fr 2
abbrev yJ:Stmt:=cu fr 3
def yK{ts:Us}{k:Nat}{z:Str}(h:(ts++[("":Str)])[k]?=some z):(ay (ts++[("":Str)]))[k]?=some (.str z):=by unfold ay;rw[KZ,h];rfl
def dU(x:Str)(l:Us):j7 (.str x) (ay l)=l.contains x:=by
 unfold j7 ay;rw[List.any_map,LJ,List.any_eq_true,Lg];constructor
 ·rintro⟨y,hy,e⟩;have:y=x:=by simpa[sW]using e
  rw[<-this];exact hy
 ·intro hx;exact⟨x,hx,by simp[sW]⟩
def eI(l:Us):(ay l).all gE=true:=by
 unfold ay;rw[MA,Li];intro x _;rfl
section
def ET:az [Sm] [Sm] (ak yI):=cv zk
variable{fd:Ur}{f:Ul}
def BH(F:O0 K "look" "Reader.look" yI f fd)(T:Rc K C):OQ P w K mg base bQ 1 f fd [Sm] (tW C):=by
 have ZZ:=ET
 walk_at "o"
 ·obtain⟨a,l,ts,k,me,z,rfl,hR,hz,q⟩:=h;refine⟨_,ag (aw (aB aU (bB (pv 0) rfl) (bB (pv 0) rfl))),?_⟩;obtain⟨dx,ho⟩:=hR.ob;exact⟨_,rfl,a,C,dx,_,_,rfl,ho,T.cl,T.n1,rfl,_,rfl,a,C,dx,_,_,rfl,ho,T.cl,T.n2,rfl,l,_,_,_,rfl,rfl,OO.of hR.tk,bf (yK hz),q⟩
def Jr:az [Sm] [Sm] (ak Jq):=cv zk
def Hf(F:O0 K "take" "Reader.take" Jq f fd)(T:Rc K C):OQ P w K mg base bQ 1 f fd [Sm] (ES C):=by
 have ZZ:=Jr
 walk_at "o"
 ·obtain⟨a,l,ts,k,me,z,rfl,hR,hz,q⟩:=h;refine⟨_,ac (nj (pv 0) af x6) (ag (aw (aB aU (bB (pv 0) rfl) (aH cU (bB (pv 0) rfl) af)))),?_⟩;obtain⟨dx,ho⟩:=hR.ob;refine⟨_,rfl,a,C,dx,_,_,rfl,ho,T.cl,T.n2,rfl,_,_,rfl,rfl,dx,_,ho,(by show 3<1000;decide),?_⟩;have e1:(aM H a (.ins C dx (aV T_ (.int ((k:Int)+1)) (Bc l k me)))) a=some (.ins C dx (Bc l (k+1) me)):=by rw[ae];rfl
  have e2:(aM H a (.ins C dx (aV T_ (.int ((k:Int)+1)) (Bc l k me)))) l=some (.lst (ay (ts++[("":Str)]))):=by rw[au hR.ne];exact hR.tk
  have b2:OS a H (aM H a (.ins C dx (aV T_ (.int ((k:Int)+1)) (Bc l k me)))):=fun b o e n=>by rw[au n];exact e
  generalize aM H a (.ins C dx (aV T_ (.int ((k:Int)+1)) (Bc l k me)))=H1 at*;refine⟨_,rfl,a,C,dx,_,_,rfl,e1,T.cl,T.n1,rfl,_,rfl,a,C,dx,_,_,rfl,e1,T.cl,T.n2,rfl,_,_,rfl,rfl,l,_,_,_,rfl,rfl,OO.of e2,?_,q _ ⟨⟨dx,e1⟩,e2,hR.le⟩ b2⟩;have:(((k+1:Nat):Int)-1)=(k:Int):=by lia
  rw[this];exact bf (yK hz)
structure Rm(P:Uo)(w:Up)(K:ZF)(mg:Str->Option Uk)(base:Heap)(C:Ul):Prop extends Rc K C where
 look:cD P w K mg base C "look" 1 [Sm] (tW C)
 take:cD P w K mg base C "take" 1 [Sm] (ES C)
def EU:az [Sm,SX] [Sm,SX] (ak yJ):=cv zk
def BI(F:O0 K "need" "Reader.need" yJ f fd)(T:Rm P w K mg base C):OQ P w K mg base bQ 2 f fd [Sm,SX] (tX K C):=by
 have ZZ:=EU
 walk_at "o"
 ·obtain⟨a,l,ts,k,me,z,p,xs,rfl,hR,hz,hp,hm,q⟩:=h;have ME:OU 1 _:=hr;refine⟨_,ac (aT (aq eV (bh (pv 0)) (pv 1) rfl) (ag bV) aG) (ag (aw (bh (pv 0)))),?_⟩;obtain⟨dx,ho⟩:=hR.ob;obtain⟨f1,MG,M1,F1,B1⟩:=T.look;obtain⟨f2,UF,M2,F2,B2⟩:=T.take;refine⟨_,rfl,a,dx,C,f1,_,MG,1,[Sm],_,rfl,ho,rfl,T.cl,M1,F1,ME,B1,a,l,ts,k,me,z,rfl,hR,hz,_,rfl,p,ay xs,rfl,?_,rfl,eI _,_,rfl,bi ?_ ?_⟩
  ·exact hp
  ·show(!j7 (.str z) (ay xs))=false;rw[dU,Lg.mpr hm];rfl
  ·exact⟨_,rfl,a,dx,C,f2,_,UF,1,[Sm],_,rfl,ho,rfl,T.cl,M2,F2,ME,B2,a,l,ts,k,me,z,rfl,hR,hz,q⟩
end
abbrev tz(ts:Us):Us:=ts++[("":Str)]
def PQ:Us:=[SE,Sw,Sx,So,Ss,SS,SF,Sn,Su,"number",S2,"set",Ub,TD,Ta,S4,Ts,SH,Tf,Tg,Sy,"bell"]
def OY(z:Str):Prop:=z∉PQ/\1<=z.length/\z.length<=8/\∀c∈z.cps.toList,97<=c/\c<=122
inductive EV(vs:Uv)(H:Hp)(Q:VK)(Z3:XK):Prop
 |mk(z:_):vs=[.str z]->OY z->(∀H',OM H H'->Q (.bl true) H')->EV vs H Q Z3
inductive o6(vs:Uv)(H:Hp)(Q:VK)(Z3:XK):Prop
 |mk(n:Nat):vs=[.str (toString (n:Int):Str)]->n<1000000000->(∀H',OM H H'->Q (.int n) H')->o6 vs H Q Z3
inductive o7(vs:Uv)(H:Hp)(Q:VK)(Z3:XK):Prop
 |mk(i:Int):vs=[.int i]->Q (.bl true) H->o7 vs H Q Z3
inductive fz(vs:Uv)(H:Hp)(Q:VK)(Z3:XK):Prop
 |mk(i lo hi:Int):vs=[.int i,.int lo,.int hi]->lo<=i->i<=hi->Q (.bl true) H->fz vs H Q Z3
inductive iG(C:Ul)(vs:Uv)(H:Hp)(Q:VK)(Z3:XK):Prop
 |mk(a l ts k me z:_):vs=[.ref a]->O9 C H a l ts k me->(tz ts)[k]?=some z->OY z->(∀H',O9 C H' a l ts (k+1) me->OS a H H'->Q (.str z) H')->iG C vs H Q Z3
inductive gv(C:Ul)(vs:Uv)(H:Hp)(Q:VK)(Z3:XK):Prop
 |mk(a l ts k me:_)(n lo hi:Nat):vs=[.ref a,.int lo,.int hi]->O9 C H a l ts k me->(tz ts)[k]?=some (toString (n:Int):Str)->n<1000000000->lo<=n->n<=hi->(∀H',O9 C H' a l ts (k+1) me->OS a H H'->Q (.int n) H')->gv C vs H Q Z3
inductive jJ(C:Ul)(vs:Uv)(H:Hp)(Q:VK)(Z3:XK):Prop
 |mk(a l ts k:_):vs=[.ref a]->O9 C H a l ts k true->k=ts.length->Q .non H->jJ C vs H Q Z3
abbrev jK:Stmt:=cu fr 4
abbrev gM:Stmt:=cu fr 5
abbrev lN:Stmt:=cu fr 6
section
def BJ:az [SA] [SA] (ak tH):=cv zk
def yL(F:O0 K "is_whole" "is_whole" tH f fd)(T:Bl mg):OQ P w K mg base bQ 1 f fd [SA] o7:=by
 have ZZ:=BJ
 walk_at "o"
 ·obtain⟨i,rfl,q⟩:=h;refine⟨_,ag (aw (jr (aI (fR (T:="int")) (by rfl) T.isinstance dj (aa (pv 0) (aa (im (by rfl) T.int LC) ab))) (ip (Ec (aI (fR (T:="bool")) (by rfl) T.isinstance dj (aa (pv 0) (aa (im (by rfl) T.bool lL) ab))))))),?_⟩;exact⟨_,rfl,_,_,_,rfl,.int _,rfl,_,rfl,fC ⟨_,rfl,_,_,_,rfl,.int _,rfl,_,rfl,q⟩⟩
def yM:az [SA,TU,S1] [SA,TU,S1] (ak oJ):=cv zk
def xa(F:O0 K "is_within" "is_within" oJ f fd)(WH:Fn P w K mg base "is_whole" 1 [SA] o7):OQ P w K mg base bQ 2 f fd [SA,TU,S1] fz:=by
 have ZZ:=yM
 walk_at "o"
 ·obtain⟨i,lo,hi,rfl,h1,h2,q⟩:=h;refine⟨_,ag (aw (jr (ax WH hr rfl (aa (pv 0) ab)) (ip (kP iQ iQ (pv 1) (pv 0) (pv 2))))),?_⟩;refine⟨_,rfl,i,rfl,_,rfl,fC ⟨_,rfl,_,rfl,_,_,rfl,rfl,_,rfl,bF (a_ h1) ⟨_,rfl,_,_,rfl,rfl,?_⟩⟩⟩;show Q (V.bl (decide (i<=hi))) H;rw[a_ h2];exact q
def tY:az [Sm] [Sm] (ak jK):=cv zk
def rE(F:O0 K "need_name" "Reader.need_name" jK f fd)(T:Rm P w K mg base C)(NM:Fn P w K mg base "is_name" 1 [SA] EV):OQ P w K mg base bQ 2 f fd [Sm] (iG C):=by
 have ZZ:=tY
 walk_at "o"
 ·obtain⟨a,l,ts,k,me,z,rfl,hR,hz,hn,q⟩:=h;have ME:OU 1 _:=hr;refine⟨_,ac (aT (cE (bT (ax NM ME rfl (aa (bh (pv 0)) ab)))) (ag bV) aG) (ag (aw (bh (pv 0)))),?_⟩;obtain⟨dx,ho⟩:=hR.ob;obtain⟨f1,MG,M1,F1,B1⟩:=T.look;obtain⟨f2,UF,M2,F2,B2⟩:=T.take;refine⟨_,rfl,a,dx,C,f1,_,MG,1,[Sm],_,rfl,ho,rfl,T.cl,M1,F1,ME,B1,a,l,ts,k,me,z,rfl,hR,hz,z,rfl,hn,fun H1 s1=>⟨_,rfl,bP ?_⟩⟩;exact⟨_,rfl,a,dx,C,f2,_,UF,1,[Sm],_,rfl,s1 _ _ ho,rfl,T.cl,M2,F2,ME,B2,a,l,ts,k,me,z,rfl,hR.same s1,hz,fun H2 r2 b2=>q H2 r2 ((bU s1).trans b2)⟩
def PL:az [Sm,TU,S1,"number"] [Sm,TU,S1] (ak gM):=cv zk
def mW(F:O0 K "need_number" "Reader.need_number" gM f fd)(T:Rm P w K mg base C)(NU:Fn P w K mg base "number_of" 1 [Uh] o6)(WI:Fn P w K mg base "is_within" 2 [SA,TU,S1] fz):OQ P w K mg base bQ 3 f fd [Sm,TU,S1] (gv C):=by
 have ZZ:=PL
 walk_at "o"
 ·obtain⟨a,l,ts,k,me,n,lo,hi,rfl,hR,hz,hn,h1,h2,q⟩:=h;refine⟨_,ac (bL (i:=3) PL.nd (ax NU hr.m rfl (aa (bh (pv 0)) ab)))
   (ac (aT (cE (bT (ax WI hr rfl (aa (pv 3) (aa (pv 1) (aa (pv 2) ab)))))) (ag bV) aG)
   (ac (nj (pv 0) af x6) (ag (aw (pv 3))))),?_⟩
  obtain⟨dx,ho⟩:=hR.ob;obtain⟨f1,MG,M1,F1,B1⟩:=T.look;refine⟨_,rfl,a,dx,C,f1,_,MG,1,[Sm],_,rfl,ho,rfl,T.cl,M1,F1,hr.m,B1,a,l,ts,k,me,_,rfl,hR,hz,n,rfl,hn,fun H1 s1=>?_⟩;refine⟨_,rfl,_,rfl,_,rfl,(n:Int),(lo:Int),(hi:Int),rfl,zo,zo,_,rfl,bP ?_⟩;have hR1:=hR.same s1;have UL:=s1 _ _ ho;refine⟨_,rfl,a,C,dx,_,_,rfl,UL,T.cl,T.n2,rfl,_,_,rfl,rfl,dx,_,UL,(by show 3<1000;decide),?_⟩;have e1:(aM H1 a (.ins C dx (aV T_ (.int ((k:Int)+1)) (Bc l k me)))) a=some (.ins C dx (Bc l (k+1) me)):=by rw[ae];rfl
  have e2:(aM H1 a (.ins C dx (aV T_ (.int ((k:Int)+1)) (Bc l k me)))) l=some (.lst (ay (ts++[("":Str)]))):=by rw[au hR.ne];exact hR1.tk
  exact⟨_,rfl,q _ ⟨⟨dx,e1⟩,e2,hR.le⟩ (fun b o e n=>by rw[au n];exact s1 _ _ e)⟩
def xb:az [Sm] [Sm] (ak lN):=cv zk
def tZ(F:O0 K "need_end" "Reader.need_end" lN f fd)(T:Rm P w K mg base C)(B:Bl mg):OQ P w K mg base bQ 1 f fd [Sm] (jJ C):=by
 have ZZ:=xb
 walk_at "o"
 ·obtain⟨a,l,ts,k,rfl,hR,hk,q⟩:=h;refine⟨_,ag (aT (PW.pt (fe (cE (bT (bB (pv 0) rfl))) (dM (aq eR (aH bX (bB (pv 0) rfl) af) (aI aL (by rfl) B.len KW (aa (bB (pv 0) rfl) ab)))))) (ag bV) aG),?_⟩;obtain⟨dx,ho⟩:=hR.ob;refine⟨_,rfl,a,C,dx,_,_,rfl,ho,T.cl,T.n3,rfl,_,rfl,bP ?_⟩;refine⟨_,rfl,a,C,dx,_,_,rfl,ho,T.cl,T.n2,rfl,_,_,rfl,rfl,_,rfl,a,C,dx,_,_,rfl,ho,T.cl,T.n1,rfl,l,_,rfl,.inl (OO.of hR.tk),_,_,rfl,rfl,_,rfl,bi (b_ ?_) q⟩;unfold ay;rw[Ky,Kz];simp;lia
end
structure sJ(P:Uo)(w:Up)(K:ZF)(mg:Str->Option Uk)(base:Heap)(C:Ul):Prop extends Rm P w K mg base C where
 need:cD P w K mg base C "need" 2 [Sm,SX] (tX K C)
 nname:cD P w K mg base C "need_name" 2 [Sm] (iG C)
 nnum:cD P w K mg base C "need_number" 3 [Sm,TU,S1] (gv C)
 nend:cD P w K mg base C "need_end" 1 [Sm] (jJ C)
inductive jL(C:Ul)(vs:Uv)(H:Hp)(Q:VK)(Z3:XK):Prop
 |mk(a l ts k me wd:_)(n lo hi:Nat):vs=[.ref a,.str wd,.int lo,.int hi]->O9 C H a l ts k me->(tz ts)[k]?=some wd->(tz ts)[k+1]?=some (toString (n:Int):Str)->(tz ts)[k+2]?=some ";"->n<1000000000->lo<=n->n<=hi->(∀H',O9 C H' a l ts (k+3) me->OS a H H'->Q (.int n) H')->jL C vs H Q Z3
def rF(ts:Us)(k:Nat)(zs:Us):Prop:=∀i(h:i<zs.length),(tz ts)[k+i]?=some zs[i]/\OY zs[i]
inductive o8(C:Ul)(vs:Uv)(H:Hp)(Q:VK)(Z3:XK):Prop
 |mk(a l ts k me wd zs:_)(lo hi:Nat):vs=[.ref a,.str wd,.int lo,.int hi]->O9 C H a l ts k me->(tz ts)[k]?=some wd->rF ts (k+1) zs->(tz ts)[k+1+zs.length]?=some ";"->lo<=zs.length->zs.length<=hi->hi<=10->(∀p H',O9 C H' a l ts (k+2+zs.length) me->OS a H H'->H p=none->H' p=some (.tup (ay zs))->Q (.ref p) H')->o8 C vs H Q Z3
section
def Qi:az [Sv,SE,TU,S1,"number"] [Sv,SE,TU,S1] (ak gr):=cv zk
def uc(F:O0 K "read_bounded" "read_bounded" gr f fd)(T:sJ P w K mg base C):OQ P w K mg base bQ 4 f fd [Sv,SE,TU,S1] (jL C):=by
 have ZZ:=Qi
 walk_at "o"
 ·obtain⟨a,l,ts,k,me,wd,n,lo,hi,rfl,hR,t0,t1,t2,hn,h1,h2,q⟩:=h;refine⟨_,ac (aQ (be (pv 0) (aa (aK (aa (pv 1) ab)) ab)))
   (ac (bL (i:=4) Qi.nd (be (pv 0) (aa (pv 2) (aa (pv 3) ab))))
   (ac (aQ (be (pv 0) (aa (aK (aa ai ab)) ab)))
   (ag (aw (pv 4))))),?_⟩
  obtain⟨f1,MG,M1,F1,B1⟩:=T.need;obtain⟨f2,UF,M2,F2,B2⟩:=T.nnum;obtain⟨dx,ho⟩:=hR.ob;refine⟨_,rfl,a,dx,C,f1,_,MG,2,[Sm,SX],_,rfl,ho,rfl,T.cl,M1,F1,hr.m,B1,_,rfl,OT,fun p1 n1=>?_⟩;have s1:=aj (o:=.tup [.str wd]) n1;refine⟨a,l,ts,k,me,wd,p1,[wd],rfl,hR.same s1,t0,(.inr (ON.of ae)),by simp,fun H1 r1 b1=>?_⟩;obtain⟨Vg,UL⟩:=r1.ob;refine⟨_,rfl,a,Vg,C,f2,_,UF,3,[Sm,TU,S1],_,rfl,UL,rfl,T.cl,M2,F2,hr,B2,_,rfl,_,rfl,a,l,ts,k+1,me,n,lo,hi,rfl,r1,t1,hn,h1,h2,fun H2 r2 b2=>?_⟩;obtain⟨Va,UD⟩:=r2.ob;refine⟨_,rfl,a,Va,C,f1,_,MG,2,[Sm,SX],_,rfl,UD,rfl,T.cl,M1,F1,hr.m,B1,OT,fun p2 n2=>?_⟩;have s2:=aj (o:=.tup [.str ";"]) n2;refine⟨a,l,ts,k+2,me,";",p2,[";"],rfl,r2.same s2,t2,(.inr (ON.of ae)),by simp,fun H3 r3 b3=>?_⟩;exact⟨_,rfl,q H3 r3 (((bU s1).trans (b1.trans b2)).trans ((bU s2).trans b3))⟩
def QV:az [Sv,SE,"least","most",Sz] [Sv,SE,"least","most"] (ak iy):=cv zk
def yN(F:O0 K "read_names" "read_names" iy f fd)(T:sJ P w K mg base C)(B:Bl mg):OQ P w K mg base bQ 3 f fd [Sv,SE,"least","most"] (o8 C):=by
 have ZZ:=QV
 walk_at "o"
 ·obtain⟨a,l,ts,k,me,wd,zs,lo,hi,rfl,hR,t0,tn,te,h1,h2,Yf,q⟩:=h;refine⟨_,ac (aQ (be (pv 0) (aa (aK (aa (pv 1) ab)) ab)))
   (ac (bL (i:=4) QV.nd (aP ab))
   (ac (fW g_ (PW.pt (fe (aq eR (aI aL (by rfl) B.len KW (aa (pv 4) ab)) (pv 2)) (dM (PW.pt (ck (aq eR (aI aL (by rfl) B.len KW (aa (pv 4) ab)) (pv 3)) (bM (aq iP (bh (pv 0)) ai)))))))
    (ag (aQ (ci KU KS KR bv (pv 4) (aa (bh (pv 0)) ab)))))
   (ac (aQ (be (pv 0) (aa (aK (aa ai ab)) ab)))
   (ag (aw (aY bC (by rfl) B.tuple bG (aa (pv 4) ab))))))),?_⟩
  obtain⟨f1,MG,M1,F1,B1⟩:=T.need;obtain⟨f2,UF,M2,F2,B2⟩:=T.nname;obtain⟨f3,UE,M3,F3,B3⟩:=T.look;obtain⟨dx,ho⟩:=hR.ob;have sz:(1000:Nat)<=sizeLine:=by decide
  refine⟨_,rfl,a,dx,C,f1,_,MG,2,[Sm,SX],_,rfl,ho,rfl,T.cl,M1,F1,hr,B1,_,rfl,OT,fun p1 n1=>?_⟩;have s1:=aj (o:=.tup [.str wd]) n1;refine⟨a,l,ts,k,me,wd,p1,[wd],rfl,hR.same s1,t0,(.inr (ON.of ae)),by simp,fun H1 r1 b1=>?_⟩;have c1:OS a H H1:=(bU s1).trans b1;refine⟨OT,fun ln nn=>?_⟩;have s2:=aj (o:=.lst []) nn;have e2:(aM H1 ln (.lst [])) ln=some (.lst (ay [])):=ae;have r2:=r1.same s2;have c2:=c1.same s2;have nH:H ln=none:=by
   by_cases hh:ln=a
   ·subst hh;obtain⟨Vg,UL⟩:=r1.ob;rw[UL]at nn;cases nn
   ·cases hx:H ln with
    |none=>rfl
    |some o=>
     have:=c1 _ _ hx hh;rw[nn]at this;cases this
  have WN:ln≠a:=by
   rintro rfl;rw[nH]at ho;cases ho
  have lnl:ln≠l:=fun z=>by
   have:=hR.tk;rw[<-z,nH]at this;cases this
  generalize aM H1 ln (.lst ([]:Uv))=H2 at*;refine⟨fun m σ H'=>∃i,i<=zs.length/\m=zs.length-i/\σ=[some (.ref a),some (.str wd),some (.int lo),some (.int hi),some (.ref ln)]/\O9 C H' a l ts (k+1+i) me/\OS a H H'/\H' ln=some (.lst (ay (zs.take i))),⟨_,0,Lh _,rfl,rfl,r2,c2,e2⟩,?_⟩;rintro m σ H3 ⟨i,hi3,rfl,rfl,r3,c3,e3⟩;have lt:(ay (zs.take i)).length=i:=by
   unfold ay;rw[Ky,KG];lia
  obtain⟨Wl,U9⟩:=r3.ob;by_cases MP:i<zs.length
  ·obtain⟨tz1,nm1⟩:=tn i MP;have tk1:zs.take (i+1)=zs.take i++[zs[i]]:=by rw[Lj,KF MP];rfl
   have nsc:zs[i]≠(";":Str):=by
    intro z;obtain⟨_,_,_,hc⟩:=nm1;rw[z]at hc;exact absurd (hc 59 zk) zo
   by_cases hlo:i<lo
   ·refine⟨_,rfl,ln,_,rfl,.inl (OO.of e3),_,rfl,_,_,rfl,rfl,_,rfl,bF (a_ (by rw[lt];lia)) ?_⟩;refine⟨fun σ' H'=>∃i',i'=i+1/\σ'=[some (.ref a),some (.str wd),some (.int lo),some (.int hi),some (.ref ln)]/\O9 C H' a l ts (k+1+i') me/\OS a H H'/\H' ln=some (.lst (ay (zs.take i'))),fun σ' H'⟨i',e',a1,a2,a3,a4⟩=>⟨zs.length-i',zo,i',zo,rfl,a1,a2,a3,a4⟩,?_⟩;refine⟨_,rfl,.inl ⟨rfl,_,OO.of e3⟩,_,rfl,a,Wl,C,f2,_,UF,2,[Sm],_,rfl,U9,rfl,T.cl,M2,F2,hr,B2,a,l,ts,k+1+i,me,zs[i],rfl,r3,tz1,nm1,fun H4 r4 b4=>?_⟩;have e4:=b4 _ _ e3 WN;refine⟨ln,_,_,rfl,rfl,e4,by rw[lt];lia,i+1,rfl,rfl,?_,?_,?_⟩
    ·refine⟨?_,?_,r4.le⟩
     ·obtain⟨Wx,Vd⟩:=r4.ob;exact⟨Wx,by rw[au WN.symm];exact Vd⟩
     ·rw[au lnl.symm];exact r4.tk
    ·intro b o e nb;by_cases Yd:b=ln
     ·rw[Yd,nH]at e;cases e
     ·rw[au Yd];exact b4 _ _ (c3 _ _ e nb) nb
    ·rw[ae,tk1];unfold ay;rw[KJ];rfl
   ·refine⟨_,rfl,ln,_,rfl,.inl (OO.of e3),_,rfl,_,_,rfl,rfl,_,rfl,bi (b_ (by rw[lt];lia)) ?_⟩;refine⟨_,rfl,ln,_,rfl,.inl (OO.of e3),_,rfl,_,_,rfl,rfl,_,rfl,bF (a_ (by rw[lt];lia)) ?_⟩;refine⟨_,rfl,a,Wl,C,f3,_,UE,1,[Sm],_,rfl,U9,rfl,T.cl,M3,F3,hr.m,B3,a,l,ts,k+1+i,me,zs[i],rfl,r3,tz1,rfl,_,rfl,bF (by simpa using nsc) ?_⟩;refine⟨fun σ' H'=>∃i',i'=i+1/\σ'=[some (.ref a),some (.str wd),some (.int lo),some (.int hi),some (.ref ln)]/\O9 C H' a l ts (k+1+i') me/\OS a H H'/\H' ln=some (.lst (ay (zs.take i'))),fun σ' H'⟨i',e',a1,a2,a3,a4⟩=>⟨zs.length-i',zo,i',zo,rfl,a1,a2,a3,a4⟩,?_⟩;refine⟨_,rfl,.inl ⟨rfl,_,OO.of e3⟩,_,rfl,a,Wl,C,f2,_,UF,2,[Sm],_,rfl,U9,rfl,T.cl,M2,F2,hr,B2,a,l,ts,k+1+i,me,zs[i],rfl,r3,tz1,nm1,fun H4 r4 b4=>?_⟩;have e4:=b4 _ _ e3 WN;refine⟨ln,_,_,rfl,rfl,e4,by rw[lt];lia,i+1,rfl,rfl,?_,?_,?_⟩
    ·refine⟨?_,?_,r4.le⟩
     ·obtain⟨Wx,Vd⟩:=r4.ob;exact⟨Wx,by rw[au WN.symm];exact Vd⟩
     ·rw[au lnl.symm];exact r4.tk
    ·intro b o e nb;by_cases Yd:b=ln
     ·rw[Yd,nH]at e;cases e
     ·rw[au Yd];exact b4 _ _ (c3 _ _ e nb) nb
    ·rw[ae,tk1];unfold ay;rw[KJ];rfl
  ·have hie:i=zs.length:=by lia
   have te':(tz ts)[k+1+i]?=some ";":=by rw[hie];exact te
   have ztk:ay (zs.take i)=ay zs:=by rw[hie,K7]
   by_cases hhi:i<hi
   ·refine⟨_,rfl,ln,_,rfl,.inl (OO.of e3),_,rfl,_,_,rfl,rfl,_,rfl,bi (b_ (by rw[lt];lia)) ?_⟩;refine⟨_,rfl,ln,_,rfl,.inl (OO.of e3),_,rfl,_,_,rfl,rfl,_,rfl,bF (a_ (by rw[lt];lia)) ?_⟩;refine⟨_,rfl,a,Wl,C,f3,_,UE,1,[Sm],_,rfl,U9,rfl,T.cl,M3,F3,hr.m,B3,a,l,ts,k+1+i,me,";",rfl,r3,te',rfl,_,rfl,bi (by simp) ?_⟩;refine⟨_,rfl,a,Wl,C,f1,_,MG,2,[Sm,SX],_,rfl,U9,rfl,T.cl,M1,F1,hr,B1,OT,fun p2 n2=>?_⟩;have s4:=aj (o:=.tup [.str ";"]) n2;refine⟨a,l,ts,k+1+i,me,";",p2,[";"],rfl,r3.same s4,te',(.inr (ON.of ae)),by simp,fun H4 r4 b4=>?_⟩;have e4:=b4 _ _ (s4 _ _ e3) WN;rw[ztk]at e4;refine⟨_,rfl,ln,ay zs,rfl,.inl ⟨OO.of e4,fun p3 n3=>?_⟩⟩;have s5:=aj (o:=.tup (ay zs)) n3;have c4:OS a H H4:=(c3.same s4).trans b4;refine q p3 _ ?_ (c4.same s5) ?_ ae
    ·have:=r4.same s5;rw[hie]at this;have e9:k+1+zs.length+1=k+2+zs.length:=by lia
     rw[e9]at this;exact this
    ·by_cases h3a:p3=a
     ·subst h3a;obtain⟨Wx,Vd⟩:=r4.ob;rw[Vd]at n3;cases n3
     ·cases hx:H p3 with
      |none=>rfl
      |some o=>
       have:=c4 _ _ hx h3a;rw[n3]at this;cases this
   ·refine⟨_,rfl,ln,_,rfl,.inl (OO.of e3),_,rfl,_,_,rfl,rfl,_,rfl,bi (b_ (by rw[lt];lia)) ?_⟩;refine⟨_,rfl,ln,_,rfl,.inl (OO.of e3),_,rfl,_,_,rfl,rfl,_,rfl,bi (b_ (by rw[lt];lia)) ?_⟩;refine⟨_,rfl,a,Wl,C,f1,_,MG,2,[Sm,SX],_,rfl,U9,rfl,T.cl,M1,F1,hr,B1,OT,fun p2 n2=>?_⟩;have s4:=aj (o:=.tup [.str ";"]) n2;refine⟨a,l,ts,k+1+i,me,";",p2,[";"],rfl,r3.same s4,te',(.inr (ON.of ae)),by simp,fun H4 r4 b4=>?_⟩;have e4:=b4 _ _ (s4 _ _ e3) WN;rw[ztk]at e4;refine⟨_,rfl,ln,ay zs,rfl,.inl ⟨OO.of e4,fun p3 n3=>?_⟩⟩;have s5:=aj (o:=.tup (ay zs)) n3;have c4:OS a H H4:=(c3.same s4).trans b4;refine q p3 _ ?_ (c4.same s5) ?_ ae
    ·have:=r4.same s5;rw[hie]at this;have e9:k+1+zs.length+1=k+2+zs.length:=by lia
     rw[e9]at this;exact this
    ·by_cases h3a:p3=a
     ·subst h3a;obtain⟨Wx,Vd⟩:=r4.ob;rw[Vd]at n3;cases n3
     ·cases hx:H p3 with
      |none=>rfl
      |some o=>
       have:=c4 _ _ hx h3a;rw[n3]at this;cases this
end
def i3:Ut:=(List.range 26).map (97+·)
def BK:Str:="abcdefghijklmnopqrstuvwxyz"
def DB:BK=S i3:=by decide +kernel
def vP(c:Nat)(h:97<=c/\c<=122):c∈i3:=by
 unfold i3;refine K4.mpr ⟨c-97,LG.mpr zo,zo⟩
structure EW(K:ZF)(mg:Str->Option Uk)(aO:Ul)(tL tN:Tok):Prop where
 own:mg "OWN_WORDS"=some (.ref aO)
 sq:∀H,ON K H aO (ay PQ)
 lets:mg "LETTERS"=some (.str BK tL)
 lng:mg "LONGEST_NAME"=some (.int 8 tN)
section
def yO:az [SA] [SA] (ak nN):=cv zk
def EY:(["sign"]:Us).Nodup:=by decide +kernel
def BL(F:O0 K "is_name" "is_name" nN f fd)(T:Bl mg)(C:EW K mg aO tL tN):OQ P w K mg base bQ 1 f fd [SA] EV:=by
 have ZZ:=yO
 walk_at "o"
 ·obtain⟨z,rfl,⟨WT,h1,h8,hc⟩,q⟩:=h;refine⟨_,ac (aT (PW.pt (fe (cE (bT (aI (fR (T:="str")) (by rfl) T.isinstance dj (aa (pv 0) (aa (im (by rfl) T.str eE) ab)))))
    (dM (aq eA (pv 0) (bE (v:=.ref aO) rfl C.own rfl) rfl)))) (ag (aw fH)) aG)
   (ag (aw (jr (kP iQ iQ af (aI cn (by rfl) T.len KW (aa (pv 0) ab)) (bE (v:=.int 8) rfl C.lng ⟨_,rfl⟩))
    (ip (aI (fq rfl) (by rfl) T.all eG (aa (fk (N':=["sign"]) (ix:=[none]) (sc0:=ak nN) (N:=[SA]) rfl zk (tj (pv 0))
     (fun C' cl s H fp=>cq (i:=0) EY) (fun _ _ _ _ _=>dQ) (fun C' cl s H fp=>cb fX (pv 0) (bE (v:=.str BK) rfl C.lets ⟨_,rfl⟩) rfl)) ab)))))),?_⟩
  have ez:z=S z.cps.toList:=yG z;have zl:z.length=z.cps.toList.length:=by show z.cps.size=_;simp
  generalize hl:z.cps.toList=l at*;subst ez;rw[aN]at h1 h8;have sz:(100000:Nat)<=sizeLine:=by decide
  refine⟨_,rfl,_,_,_,rfl,.str _,rfl,_,rfl,bP ?_⟩;refine⟨_,rfl,aO,ay PQ,rfl,.inr (C.sq H),rfl,eI _,_,rfl,bi ?_ ?_⟩
  ·show j7 (.str (S l)) (ay PQ)=false;rw[dU];exact Mb.mpr fun e=>WT (Lg.mp e)
  ·refine⟨_,rfl,S l,rfl,(by rw[aN];lia),_,_,rfl,rfl,_,rfl,?_⟩;rw[aN];refine bF (a_ zo) ⟨_,_,rfl,rfl,_,rfl,bF (a_ zo) ⟨_,rfl,l,rfl,?_⟩⟩;refine tq (fun i ys H'=>ys=(List.replicate i true).map V.bl/\OM H H') ⟨rfl,OM.refl _⟩ (fun i ys H' hi⟨e,_⟩=>by rw[e,Ky,Lp];lia) ?_ ?_
   ·rintro i ys H' hi ⟨rfl,s'⟩;refine⟨trivial,eB ?_⟩;refine⟨_,rfl,S [l[i]],_,rfl,rfl,?_⟩;rw[DB,gU,a_ (vP _ (hc _ (Lo hi)))];refine Nx.mk hi ⟨?_,s'⟩;rw[C_,KJ];rfl
   ·rintro ys H' ⟨rfl,s'⟩ D hD;refine⟨D,List.replicate l.length true,rfl,OO.of ae,?_⟩;have:=q _ (s'.trans (aj (o:=.lst ((List.replicate l.length true).map V.bl)) hD));have ea:(List.replicate l.length true).all id=true:=by simp
    rw[ea];exact this
end
def dg(n:Nat):Ut:=(Nat.toDigits 10 n).map Char.toNat
def rG(h:n<10):dg n=[48+n]:=by
 unfold dg;rw[Nat.toDigits_of_lt_base h];have:∀d:Nat,d<10->[Nat.digitChar d].map Char.toNat=[48+d]:=by decide
 exact this n h
def yP(h:10<=n):dg n=dg (n / 10)++[48+n%10]:=by
 have hm:n%10<10:=Mx n zd;have t:Nat.toDigits 10 (n / 10)++Nat.toDigits 10 (n%10)=Nat.toDigits 10 (10*(n / 10)+n%10):=Nat.toDigits_append_toDigits zd zo hm;rw[Nat.div_add_mod]at t;rw[<-rG hm];unfold dg;rw[<-t,KJ]
def lO(n:Nat):∀c∈dg n,48<=c/\c<=57:=by
 induction n using Nat.strongRecOn with
 |_ n ih=>
  by_cases h:n<10
  ·rw[rG h];intro c hc;rw[Lb.mp hc];lia
  ·rw[yP zo];intro c hc;rcases La.mp hc with hc|hc
   ·exact ih (n / 10) zo c hc
   ·rw[Lb.mp hc];lia
def gN(n:Nat):1<=(dg n).length/\∀k,1<=k->n<10^k->(dg n).length<=k:=by
 induction n using Nat.strongRecOn with
 |_ n ih=>
  by_cases h:n<10
  ·rw[rG h];exact⟨by simp,fun k hk _=>by simpa using hk⟩
  ·rw[yP zo];obtain⟨a,b⟩:=ih (n / 10) zo;refine⟨by rw[Kz];simp,fun k hk hn=>?_⟩;rw[Kz];have WU:2<=k:=by
    rcases(by lia:k=1\/2<=k)with rfl|z
    ·simp at hn;lia
    ·exact z
   have:=b (k-1) zo (by
    have e:10^k=10^(k-1)*10:=by rw[<-Mm];congr 1;lia
    rw[e]at hn;exact Nat.div_lt_of_lt_mul (by rw[Nat.mul_comm];exact hn))
   simp;lia
def BM(n:Nat)(h1:1<=n):(dg n)[0]?≠some 48:=by
 induction n using Nat.strongRecOn with
 |_ n ih=>
  by_cases h:n<10
  ·rw[rG h];simp;lia
  ·rw[yP zo];have hl:=(gN (n / 10)).1;rw[Ma zo];exact ih (n / 10) zo zo
def iH(n:Nat):(toString (n:Int):Str)=S (dg n):=by
 have:=PySem.W.KIN.signs_num n;have e:=yG (toString (n:Int):Str);rw[e]
 congr 1
def Hg:Ut:=(List.range 10).map (48+·)
def EZ:Str:="0123456789"
def Hh:EZ=S Hg:=by decide +kernel
def BN(c:Nat)(h:48<=c/\c<=57):c∈Hg:=K4.mpr ⟨c-48,LG.mpr zo,zo⟩
section
def rH:ff X (.type "int") (fun xs H Q=>∃n:Nat,xs=[.str (toString (n:Int):Str)]/\n<1000000000/\Q (.int n) H):=by
 intro MC s σ H xs us Q I r h;obtain⟨n,rfl,hn,q⟩:=h;obtain⟨u,rfl,rx⟩:=il r;obtain⟨t,rfl⟩:=rx;exact PySem.W.KIN.call_num zo zo ⟨.int n,H,I.tok _,⟨_,rfl⟩,q⟩
end
section
def ud:az [Uh] [Uh] (ak gY):=cv zk
def rJ(F:O0 K "number_of" "number_of" gY f fd)(T:Bl mg)(hF:mg "FIGURES"=some (.str EZ tF))(hM:mg "MOST_FIGURES"=some (.int 9 tM)):OQ P w K mg base bQ 1 f fd [Uh] o6:=by
 have ZZ:=ud
 walk_at "o"
 ·obtain⟨n,rfl,hn,q⟩:=h;refine⟨_,ac (aT (PW.pt (fe (cE (qN iQ iQ af (aI cn (by rfl) T.len KW (aa (pv 0) ab)) (bE (v:=.int 9) rfl hM ⟨_,rfl⟩)))
    (dM (cE (bT (aI (fq rfl) (by rfl) T.all eG (aa (fk (N':=["sign"]) (ix:=[none]) (sc0:=ak gY) (N:=[Uh]) rfl zk (tj (pv 0))
     (fun C' cl s H fp=>cq (i:=0) EY) (fun _ _ _ _ _=>dQ) (fun C' cl s H fp=>cb fX (pv 0) (bE (v:=.str EZ) rfl hF ⟨_,rfl⟩) rfl)) ab))))))) (ag (aw gm)) aG)
   (ac (aT (PW.pt (ck (aq aX (aB jw (pv 0) af) ai) (bM (aq kO (aI cn (by rfl) T.len KW (aa (pv 0) ab)) af)))) (ag (aw gm)) aG)
   (ag (aw (aY rH (by rfl) T.int LC (aa (pv 0) ab))))),?_⟩
  have es:=iH n;obtain⟨l1,l9'⟩:=gN n;have l9:=l9' 9 zd zo;have sz:(100000:Nat)<=sizeLine:=by decide
  rw[es];refine⟨_,rfl,S (dg n),rfl,(by rw[aN];lia),_,_,rfl,rfl,_,rfl,?_⟩;rw[aN];refine bF (a_ zo) ⟨_,_,rfl,rfl,_,rfl,?_⟩;rw[a_ (show((dg n).length:Int)<=9 by lia)];refine bP ⟨_,rfl,dg n,rfl,?_⟩;refine tq (fun i ys H'=>ys=(List.replicate i true).map V.bl/\OM H H') ⟨rfl,OM.refl _⟩ (fun i ys H' hi⟨e,_⟩=>by rw[e,Ky,Lp];lia) ?_ ?_
  ·rintro i ys H' hi ⟨rfl,s'⟩;refine⟨trivial,eB ?_⟩;refine⟨_,rfl,S [(dg n)[i]],_,rfl,rfl,?_⟩;rw[Hh,gU,a_ (BN _ (lO n _ (Lo hi)))];refine Nx.mk hi ⟨?_,s'⟩;rw[C_,KJ];rfl
  ·rintro ys H' ⟨rfl,s'⟩ D hD;have s2:=aj (o:=.lst ((List.replicate (dg n).length true).map V.bl)) hD;refine⟨D,List.replicate (dg n).length true,rfl,OO.of ae,?_⟩;have ea:(List.replicate (dg n).length true).all id=true:=by simp
   rw[ea];refine⟨_,rfl,bP ?_⟩;refine⟨_,rfl,S (dg n),0,(dg n)[0],rfl,rfl,(by rw[aN];lia),?_,rfl,_,rfl,?_⟩
   ·exact i0 (i:=0) zo
   ·by_cases hz:n=0
    ·subst hz;have e00:(dg 0)[0]=48:=by simp[rG (n:=0) zd]
     refine bF (a_ (by rw[e00];decide +kernel)) ?_;refine⟨_,rfl,S (dg 0),rfl,(by rw[aN];lia),_,_,rfl,rfl,_,rfl,bi zk ?_⟩;exact⟨_,rfl,0,by rw[iH],hn,q _ (s'.trans s2)⟩
    ·have hd:=BM n zo;refine bi ?_ (bP ?_)
     ·refine b_ fun e=>hd ?_;have e2:=V.str.inj e;have e3:S [(dg n)[0]]=S [48]:=e2.trans zk;have e4:[(dg n)[0]]=[48]:=by
       have:=d_ (fun z:Str=>z.cps.toList) e3;simpa[S]using this
      rw[KF zo];exact d_ some (List.cons.inj e4).1
     ·exact⟨_,rfl,n,by rw[iH],hn,q _ (s'.trans s2)⟩
end
end L3
namespace L3
open PySem L2 TK
structure BP(K:ZF)(mg:Str->Option Uk)(aD:Ul)(tG tS:Tok):Prop where
 gaps:mg "GAPS"=some (.str " \n" tG)
 sing:mg "SINGLE_SIGNS"=some (.str "(){}[],;+-&|^<=" tS)
 doub:mg "DOUBLE_SIGNS"=some (.ref aD)
 sq:∀H,ON K H aD [.str "<<",.str ">>"]
 len:mg "len"=none
def vs(ts:List (Ut)):Uv:=ts.map fun t=>V.str (S t)
inductive o9(xs:Uv)(H:Hp)(Q:VK)(Z3:XK):Prop
 |mk(l:Ut)(i:Nat):xs=[.str (S l),.int i]->i<l.length->l.length<=100000->Q (.str (S ((l.drop i).take (jy (l.drop i))))) H->o9 xs H Q Z3
inductive yQ(xs:Uv)(H:Hp)(Q:VK)(Z3:XK):Prop
 |mk(l:Ut)(i:Nat):xs=[.str (S l),.int i]->i<l.length->l.length<=100000->Q (.str (S ((l.drop i).take (run (l.drop i))))) H->yQ xs H Q Z3
inductive ue(xs:Uv)(H:Hp)(Q:VK)(Z3:XK):Prop
 |mk(l:Ut):xs=[.str (S l)]->l.length<=100000->(∀(p:Ul)(H':Hp),H p=none->H' p=some (.lst (vs (toks l)))->OM H H'->Q (.ref p) H')->ue xs H Q Z3
variable{i:Nat}
def vQ{l:Ut}(h:i<l.length):ij l (some (i:Int)) (some ((i:Int)+2))=(l.drop i).take 2:=by
 unfold ij;have e:((i:Int)+2)=((i+2:Nat):Int):=by lia
 rw[e,HT.sIx_nat,HT.sIx_nat,show min i l.length=i by lia];by_cases c:i+2<=l.length
 ·rw[show min (i+2) l.length-i=2 by lia]
 ·rw[LB (by rw[Ls];lia),LB (by rw[Ls];lia)]
def E3{l:Ut}{i j:Nat}(h:j<=l.length):ij l (some (i:Int)) (some (j:Int))=(l.drop i).take (j-i):=by
 unfold ij;rw[HT.sIx_nat,HT.sIx_nat,show min j l.length=j by lia];by_cases c:i<=l.length
 ·rw[show min i l.length=i by lia]
 ·rw[show min i l.length=l.length by lia,List.drop_length,List.drop_eq_nil_of_le zo];simp
def hI{l:Ut}(h:i<l.length):l.drop i=l[i]::l.drop (i+1):=Lq h
def yR:(" \n":Str)=S [32,10]:=by decide +kernel
def E4:("(){}[],;+-&|^<=":Str)=S [40,41,123,125,91,93,44,59,43,45,38,124,94,60,61]:=by decide +kernel
def Js:("<<":Str)=S [60,60]:=by decide +kernel
def Jt:(">>":Str)=S [62,62]:=by decide +kernel
def vR(c:Nat):decide (c∈[32,10])=gA c:=by
 rw[LJ,H_];unfold gA;simp
def BQ(c:Nat):decide (c∈[40,41,123,125,91,93,44,59,43,45,38,124,94,60,61])=dR c:=by
 rw[LJ,H_];unfold dR;rw[Lg]
def BR(t:Ut):j7 (.str (S t)) [.str "<<",.str ">>"]=(decide (t=[60,60])||decide (t=[62,62])):=by
 unfold j7;rw[Js,Jt];show((S [60,60]==S t)||((S [62,62]==S t)||false))=_;have e:∀u:Ut,(S u==S t)=decide (t=u):=fun u=>by
  rw[LJ,H_,beq_iff_eq,Qh];exact⟨fun h=>h.symm,fun h=>h.symm⟩
 rw[e,e,Bool.or_false]
section
def E5:az [Tu,Uj] [Tu,Uj] (ak yA):=cv zk
def BS{f aD:Ul}{fd:Ur}{tG tS:Tok}(F:O0 K "sign_at" "sign_at" yA f fd)(T:BP K mg aD tG tS):OQ P w K mg base bQ 1 f fd [Tu,Uj] o9:=by
 have ZZ:=E5
 walk_at "o"
 ·obtain⟨l,i,rfl,hi,hz,q⟩:=h;have sz:(100000:Nat)<=sizeLine:=by decide
  refine⟨_,ac (aT (aq eA (fh oH (pv 0) (dP (pv 1)) (dP (aH bX (pv 1) af))) (bE (v:=.ref aD) rfl T.doub rfl) rfl) (ag (aw (fh oH (pv 0) (dP (pv 1)) (dP (aH bX (pv 1) af))))) aG)
   (ac (aT (aq fX (aB jw (pv 0) (pv 1)) (bE (v:=.str "(){}[],;+-&|^<=") rfl T.sing ⟨_,rfl⟩) rfl) (ag (aw (aB jw (pv 0) (pv 1)))) aG)
   (ag (aw ai))),?_⟩
  refine⟨_,rfl,_,rfl,_,rfl,_,rfl,_,_,rfl,rfl,_,rfl,l,rfl,hz,?_⟩;rw[vQ hi];refine⟨aD,_,rfl,.inr (T.sq H),rfl,rfl,_,rfl,?_⟩;show if j7 (.str (S ((l.drop i).take 2))) [.str "<<",.str ">>"]=true then _ else _;have two:jy (l.drop i)=if j7 (.str (S ((l.drop i).take 2))) [.str "<<",.str ">>"]=true then 2 else if dR l[i]=true then 1 else 0:=by
   rw[BR,hI hi];cases hd:l.drop (i+1)with
   |nil=>rw[fJ];simp
   |cons d r=>
    rw[eW];simp
  by_cases c:j7 (.str (S ((l.drop i).take 2))) [.str "<<",.str ">>"]=true
  ·rw[f_ c]at two;refine bF c ?_;refine⟨_,rfl,_,rfl,_,rfl,_,rfl,_,_,rfl,rfl,_,rfl,l,rfl,hz,?_⟩;rw[vQ hi];rw[two]at q;exact q
  ·rw[e_ c]at two;refine bi (by simpa using c) ?_;refine⟨_,rfl,_,rfl,_,_,l[i],rfl,rfl,(by rw[aN];lia),i0 hi,_,_,rfl,rfl,_,rfl,?_⟩;rw[E4];have e:=gU l[i] [40,41,123,125,91,93,44,59,43,45,38,124,94,60,61];rw[BQ]at e;by_cases c2:dR l[i]=true
   ·rw[f_ c2]at two;refine bF (e.trans c2) ?_;refine⟨_,rfl,_,rfl,_,_,l[i],rfl,rfl,(by rw[aN];lia),i0 hi,?_⟩;rw[two,hI hi]at q;exact q
   ·rw[e_ c2]at two;refine bi (e.trans (by simpa using c2)) ?_;rw[two]at q;exact q
end
section
def Rj:az [Tu,Uj,"behind"] [Tu,Uj] (ak EK):=cv zk
def take_nil{l:Ut}{n:Nat}(h:n<=l.length):l.take n=[]↔n=0:=by
 constructor
 ·intro e;have:=d_ List.length e;rw[KG,K3]at this;lia
 ·intro e;rw[e,Sb]
variable{tG tS:Tok}{fd:Ur}{f aD:Ul}
def E6(F:O0 K "run_at" "run_at" EK f fd)(T:BP K mg aD tG tS)(SG:Fn P w K mg base "sign_at" 1 [Tu,Uj] o9):OQ P w K mg base bQ 2 f fd [Tu,Uj] yQ:=by
 have ZZ:=Rj
 walk_at "o"
 ·obtain⟨l,i,rfl,hi,hz,q⟩:=h;have sz:(100000:Nat)<=sizeLine:=by decide
  have sl:(S l).length<=sizeLine:=by rw[aN];lia
  refine⟨_,ac (bL (i:=2) Rj.nd (pv 1))
   (ac (fW g_ (PW.pt (ck (aq eR (pv 2) (aI cn (by rfl) T.len KW (aa (pv 0) ab)))
     (ck (aq ou (aB jw (pv 0) (pv 2)) (bE (v:=.str " \n") rfl T.gaps ⟨_,rfl⟩) rfl) (bM (aq aX (ax SG hr rfl (aa (pv 0) (aa (pv 2) ab))) ai)))))
    (ag (sM (i:=2) Rj.nd rfl (Or.inl rfl) af sN)))
   (ag (aw (fh oH (pv 0) (dP (pv 1)) (dP (pv 2)))))),?_⟩
  refine⟨_,rfl,?_⟩;refine⟨fun m σ H'=>∃k:Nat,σ=[some (.str (S l)),some (.int i),some (.int (i+k:Nat))]/\m=l.length-(i+k)/\i+k<=l.length/\run (l.drop i)=k+run (l.drop (i+k))/\H'=H,
   ⟨_,0,rfl,rfl,zo,by rw[Nat.add_zero,RX],rfl⟩,?_⟩
  rintro m σ H' ⟨k,rfl,rfl,hk,hrun,rfl⟩;have out:run (l.drop (i+k))=0->GI (Ka (fun x lo hi H Q=>∃l,x=.str (S l)/\l.length<=100000/\Q (.str (S (ij l lo hi))) H) (wK 0) (yc (wK 1)) (yc (wK 2))) {nx:=fun _ H'=>Q .non H',rt:=Q} [some (.str (S l)),some (.int i),some (.int (i+k:Nat))] H':=fun e=>by
   refine⟨_,rfl,_,rfl,_,rfl,_,rfl,_,rfl,l,rfl,hz,?_⟩;rw[E3 hk,show i+k-i=k by lia];rw[hrun,e,Nat.add_zero]at q;exact q
  refine⟨_,rfl,_,rfl,S l,rfl,sl,_,_,rfl,rfl,_,rfl,?_⟩;by_cases c:i+k<l.length
  ·refine bF (a_ (by rw[aN];lia)) ?_;refine⟨_,rfl,_,rfl,_,_,l[i+k],rfl,rfl,sl,i0 c,_,_,rfl,rfl,_,rfl,?_⟩;rw[yR];have e:=gU l[i+k] [32,10];rw[vR]at e;have e':(!(!(Builtin.Str.occurrences (S [32,10]) (S [l[i+k]]) 0 (S [32,10]).length 1).isEmpty))=!gA l[i+k]:=by rw[e]
   have rc:run (l.drop (i+k))=if(gA l[i+k]||jy (l.drop (i+k)) != 0)=true then 0 else 1+run (l.drop (i+k+1)):=by
    rw[hI c,cG]
   cases g:gA l[i+k]with
   |true=>
    refine bi (e'.trans (by rw[g];rfl)) (bP ?_);exact out (by rw[rc,g];rfl)
   |false=>
    refine bF (e'.trans (by rw[g];rfl)) ?_;refine⟨_,rfl,_,rfl,l,i+k,rfl,c,hz,rfl,_,rfl,?_⟩;rw[He];by_cases s0:jy (l.drop (i+k))=0
    ·refine bF (a_ (by rw[s0];rfl)) ?_;refine⟨fun σ' H2=>σ'=[some (.str (S l)),some (.int i),some (.int (i+(k+1):Nat))]/\H2=H',fun σ' H2⟨e1,e2⟩=>⟨l.length-(i+(k+1)),zo,k+1,e1,rfl,zo,?_,e2⟩,?_⟩
     ·rw[hrun,rc,g,s0];show k+(1+run (l.drop (i+k+1)))=_;rw[Nat.add_assoc i k 1];lia
     ·refine⟨_,rfl,_,_,rfl,rfl,?_,rfl⟩;show [some (V.str (S l)),some (V.int i),some (V.int (((i+k:Nat):Int)+1))]=_;rw[show(((i+k:Nat):Int)+1)=((i+(k+1):Nat):Int)by lia]
    ·refine bi (b_ ?_) ?_
     ·intro z;injection z with z';have:=(take_nil (oF (l.drop (i+k)))).mp (Qh.mp z');exact s0 this
     ·exact out (by rw[rc,g];simp[s0])
  ·refine bi (b_ (by rw[aN];lia)) (bP ?_);have:l.drop (i+k)=[]:=List.drop_eq_nil_of_le zo;exact out (by rw[this];rfl)
def PZ:az [Tu,S7,Uj,Uh] [Tu] (ak oN):=cv zk
def yS(a b:List (Ut)):vs (a++b)=vs a++vs b:=KJ
def yT(a:List (Ut)):(vs a).length=a.length:=Ky _
def BU(F:O0 K "tokens_of" "tokens_of" oN f fd)(T:BP K mg aD tG tS)(SG:Fn P w K mg base "sign_at" 1 [Tu,Uj] o9)(RN:Fn P w K mg base "run_at" 2 [Tu,Uj] yQ):
  OQ P w K mg base bQ 3 f fd [Tu] ue:=by
 have ZZ:=PZ
 walk_at "o"
 ·obtain⟨l,rfl,hz,q⟩:=h;have sz:(100000:Nat)<sizeLine:=by decide
  have sl:(S l).length<=sizeLine:=by rw[aN];lia
  refine⟨_,ac (bL (i:=1) PZ.nd (aP ab))
   (ac (bL (i:=2) PZ.nd af)
   (ac (fW g_ (aq eR (pv 2) (aI cn (by rfl) T.len KW (aa (pv 0) ab)))
    (ag (aT (aq fX (aB jw (pv 0) (pv 2)) (bE (v:=.str " \n") rfl T.gaps ⟨_,rfl⟩) rfl) (ag (sM (i:=2) PZ.nd rfl (Or.inl rfl) af sN))
     (ac (bL (i:=3) PZ.nd (EA (ax SG hr.m rfl (aa (pv 0) (aa (pv 2) ab))) (ip (ax RN hr rfl (aa (pv 0) (aa (pv 2) ab))))))
     (ac (aQ (ci KU KS KR bv (pv 1) (aa (pv 3) ab)))
     (ag (sM (i:=2) PZ.nd rfl (Or.inl rfl) (aI cn (by rfl) T.len KW (aa (pv 3) ab)) sN)))))))
   (ag (aw (pv 1))))),?_⟩
  refine⟨OT,fun p hp=>?_⟩;refine⟨fun m σ H'=>∃(k:Nat)(ts:List (Ut))(v:Option V),σ=[some (.str (S l)),some (.ref p),some (.int k),v]/\m=l.length-k/\k<=l.length/\H' p=some (.lst (L3.vs ts))/\OM H H'/\ts++toks (l.drop k)=toks l/\ts.length<=k,
   ⟨_,0,[],none,rfl,rfl,zo,ae,aj hp,rfl,KO _⟩,?_⟩
  rintro m σ H' ⟨k,ts,v,rfl,rfl,hk,g,s1,e,hl⟩;refine⟨_,rfl,_,rfl,S l,rfl,sl,_,_,rfl,rfl,_,rfl,?_⟩;by_cases c:k<l.length
  ·refine bF (a_ (by rw[aN];lia)) ?_;refine⟨fun σ' H2=>∃(k':Nat)(Y':List (Ut))(v':Option V),σ'=[some (.str (S l)),some (.ref p),some (.int k'),v']/\k<k'/\k'<=l.length/\H2 p=some (.lst (L3.vs Y'))/\OM H H2/\Y'++toks (l.drop k')=toks l/\Y'.length<=k',
    fun σ' H2⟨k',Y',v',e1,e2,e3,e4,e5,e6,e7⟩=>⟨l.length-k',zo,k',Y',v',e1,rfl,e3,e4,e5,e6,e7⟩,?_⟩
   refine⟨_,rfl,_,rfl,_,_,l[k],rfl,rfl,sl,i0 c,_,_,rfl,rfl,_,rfl,?_⟩;rw[yR];have ec:=gU l[k] [32,10];rw[vR]at ec;cases gg:gA l[k]with
   |true=>
    refine bF (ec.trans gg) ?_;refine⟨_,rfl,_,_,rfl,rfl,?_⟩;refine⟨k+1,ts,v,?_,zo,c,g,s1,?_,zo⟩
    ·show [some (V.str (S l)),some (V.ref p),some (V.int ((k:Int)+1)),v]=_;rw[show((k:Int)+1)=((k+1:Nat):Int)by lia]
    ·rw[<-e,hI c,kZ gg]
   |false=>
    refine bi (ec.trans gg) ?_;refine⟨_,rfl,_,rfl,l,k,rfl,c,hz,?_⟩;have dl:(l.drop k).length=l.length-k:=Ls;have ol:=Ez (l.drop k);have op:0<one (l.drop k):=by rw[hI c];exact kh gg
    have tk:ts++[(l.drop k).take (one (l.drop k))]++toks (l.drop (k+one (l.drop k)))=toks l:=by
     rw[<-e,Le,show l.drop (k+one (l.drop k))=(l.drop k).drop (one (l.drop k))by rw[List.drop_drop]]
     congr 1
     rw[hI c,qU gg];rfl
    have tl:((l.drop k).take (one (l.drop k))).length=one (l.drop k):=by rw[KG];lia
    have tz:((l.drop k).take (jy (l.drop k))).length<=100000:=by rw[KG];lia
    refine⟨_,rfl,tz,?_⟩;by_cases s0:jy (l.drop k)=0
    ·rw[f_ ((take_nil (oF _)).mpr s0)];refine⟨_,rfl,_,rfl,l,k,rfl,c,hz,?_⟩;rw[show run (l.drop k)=one (l.drop k)from(f_ s0).symm];refine⟨_,rfl,.inl ⟨rfl,_,OO.of g⟩,_,rfl,p,_,_,rfl,rfl,g,(by rw[yT];lia),?_⟩;refine⟨_,rfl,_,rfl,S ((l.drop k).take (one (l.drop k))),rfl,(by rw[aN];lia),_,_,rfl,rfl,?_⟩;refine⟨k+one (l.drop k),ts++[(l.drop k).take (one (l.drop k))],some (.str (S ((l.drop k).take (one (l.drop k))))),?_,zo,zo,?_,cj hp s1,tk,by rw[Kz];simp;lia⟩
     ·show [some (V.str (S l)),some (V.ref p),some (V.int ((k:Int)+((S ((l.drop k).take (one (l.drop k)))).length:Int))),some (V.str (S ((l.drop k).take (one (l.drop k)))))]=_;rw[aN,tl,show((k:Int)+(one (l.drop k):Int))=((k+one (l.drop k):Nat):Int)by lia]
     ·rw[ae,yS];rfl
    ·rw[e_ (fun z=>s0 ((take_nil (oF _)).mp z))];rw[show jy (l.drop k)=one (l.drop k)from(e_ s0).symm];refine⟨_,rfl,.inl ⟨rfl,_,OO.of g⟩,_,rfl,p,_,_,rfl,rfl,g,(by rw[yT];lia),?_⟩;refine⟨_,rfl,_,rfl,S ((l.drop k).take (one (l.drop k))),rfl,(by rw[aN];lia),_,_,rfl,rfl,?_⟩;refine⟨k+one (l.drop k),ts++[(l.drop k).take (one (l.drop k))],some (.str (S ((l.drop k).take (one (l.drop k))))),?_,zo,zo,?_,cj hp s1,tk,by rw[Kz];simp;lia⟩
     ·show [some (V.str (S l)),some (V.ref p),some (V.int ((k:Int)+((S ((l.drop k).take (one (l.drop k)))).length:Int))),some (V.str (S ((l.drop k).take (one (l.drop k)))))]=_;rw[aN,tl,show((k:Int)+(one (l.drop k):Int))=((k+one (l.drop k):Nat):Int)by lia]
     ·rw[ae,yS];rfl
  ·refine bi (b_ (by rw[aN];lia)) ?_;have:k=l.length:=by lia
   subst this;rw[List.drop_length,qT,Lm]at e;subst e;exact⟨_,rfl,q p H' hp g s1⟩
end
end L3
namespace L3
open PySem L2
def BV(l:Ut):Bool:=!PQ.contains (S l)&&(decide (1<=l.length)&&(decide (l.length<=8)&&l.all fun c=>decide (c∈i3)))
inductive yU(vs:Uv)(H:Hp)(Q:VK)(Z3:XK):Prop
 |mk(l:Ut):vs=[.str (S l)]->l.length<=1000->(∀H',OM H H'->Q (.bl (BV l)) H')->yU vs H Q Z3
section
def yV(F:O0 K "is_name" "is_name" nN f fd)(T:Bl mg)(C:EW K mg aO tL tN):OQ P w K mg base bQ 1 f fd [SA] yU:=by
 have ZZ:=yO
 walk_at "o"
 ·obtain⟨l,rfl,hl,q⟩:=h;refine⟨_,ac (aT (PW.pt (fe (cE (bT (aI (fR (T:="str")) (by rfl) T.isinstance dj (aa (pv 0) (aa (im (by rfl) T.str eE) ab)))))
    (dM (aq eA (pv 0) (bE (v:=.ref aO) rfl C.own rfl) rfl)))) (ag (aw fH)) aG)
   (ag (aw (jr (kP iQ iQ af (aI cn (by rfl) T.len KW (aa (pv 0) ab)) (bE (v:=.int 8) rfl C.lng ⟨_,rfl⟩))
    (ip (aI (fq rfl) (by rfl) T.all eG (aa (fk (N':=["sign"]) (ix:=[none]) (sc0:=ak nN) (N:=[SA]) rfl zk (tj (pv 0))
     (fun C' cl s H fp=>cq (i:=0) EY) (fun _ _ _ _ _=>dQ) (fun C' cl s H fp=>cb fX (pv 0) (bE (v:=.str BK) rfl C.lets ⟨_,rfl⟩) rfl)) ab)))))),?_⟩
  have sz:(100000:Nat)<=sizeLine:=by decide
  refine⟨_,rfl,_,_,_,rfl,.str _,rfl,_,rfl,bP ?_⟩;have ZV:j7 (.str (S l)) (ay PQ)=PQ.contains (S l):=dU _ _;refine⟨_,rfl,aO,ay PQ,rfl,.inr (C.sq H),rfl,eI _,_,rfl,ce (fun h=>?_) (fun h=>?_)⟩
  ·have h':PQ.contains (S l)=true:=by rw[<-ZV];exact h
   have e:BV l=false:=by unfold BV;rw[h'];rfl
   have:=q H (OM.refl _);rw[e]at this;exact this
  ·have h':PQ.contains (S l)=false:=by rw[<-ZV];exact Mb.mpr h
   have e:BV l=(decide (1<=l.length)&&(decide (l.length<=8)&&l.all fun c=>decide (c∈i3))):=by unfold BV;rw[h'];rfl
   rw[e]at q;refine⟨_,rfl,S l,rfl,(by rw[aN];lia),_,_,rfl,rfl,_,rfl,?_⟩;rw[aN];refine ce (fun h1=>?_) (fun h1=>?_)
   ·have h1':1<=l.length:=by have:=h_ h1;lia
    refine⟨_,_,rfl,rfl,_,rfl,ce (fun h2=>?_) (fun h2=>?_)⟩
    ·have ZS:l.length<=8:=by have:=h_ h2;lia
     refine⟨_,rfl,l,rfl,?_⟩;refine tq (fun i ys H'=>ys=((l.take i).map fun c=>decide (c∈i3)).map V.bl/\OM H H') ⟨rfl,OM.refl _⟩ (fun i ys H' hi⟨e,_⟩=>by rw[e,Ky,Ky,KG];lia) ?_ ?_
     ·rintro i ys H' hi ⟨rfl,s'⟩;refine⟨trivial,eB ?_⟩;refine⟨_,rfl,S [l[i]],_,rfl,rfl,?_⟩;rw[DB,gU];refine Nx.mk hi ⟨?_,s'⟩;rw[Lj,KF hi,KJ,KJ];rfl
     ·rintro ys H' ⟨rfl,s'⟩ D hD;rw[K7];refine⟨D,l.map fun c=>decide (c∈i3),rfl,OO.of ae,?_⟩;have:=q _ (s'.trans (aj (o:=.lst ((l.map fun c=>decide (c∈i3)).map V.bl)) hD));rw[a_ h1',a_ ZS]at this;have ea:(l.map fun c=>decide (c∈i3)).all id=l.all fun c=>decide (c∈i3):=by rw[MA];rfl
      rw[ea];exact this
    ·have ZS:¬l.length<=8:=fun z=>h2 (a_ zo);have:=q H (OM.refl _);rw[a_ h1',b_ ZS]at this;exact this
   ·have h1':¬1<=l.length:=fun z=>h1 (a_ zo);have:=q H (OM.refl _);rw[b_ h1']at this;exact⟨_,rfl,bP this⟩
end
def E7(h:OY z):BV z.cps.toList=true:=by
 obtain⟨h0,h1,h2,h3⟩:=h;have ez:=yG z;have zl:z.length=z.cps.toList.length:=by show z.cps.size=_;simp
 unfold BV;rw[<-ez,Mb.mpr fun e=>h0 (Lg.mp e),a_ zo,a_ zo];have:(z.cps.toList.all fun c=>decide (c∈i3))=true:=Li.mpr fun c hc=>a_ (vP _ (h3 c hc));rw[this];rfl
def Hi(n:Nat):BV (dg n)=false:=by
 unfold BV;have hl:=(gN n).1;have:(dg n).all (fun c=>decide (c∈i3))=false:=by
  rw[List.all_eq_false];cases e:dg n with
  |nil=>rw[e]at hl;simp at hl
  |cons c r=>
   refine⟨c,KB,?_⟩;have hc:=lO n c (by rw[e];exact KB);have WT:∀c,48<=c->c<=57->¬c∈i3:=by
    intro c h1 h2 hm;have:∀x∈i3,97<=x:=by decide
    have:=this c hm;lia
   simp[WT c hc.1 hc.2]
 rw[this];simp
def At(ts:Us)(k:Nat)(l:Us):Prop:=∀(i:Nat)(z:Str),l[i]?=some z->(tz ts)[k+i]?=some z
def At.hd(h:At ts k (x::l)):(tz ts)[k]?=some x:=h 0 x rfl
def At.tl(h:At ts k (x::l)):At ts (k+1) l:=fun i z e=>by
 have:=h (i+1) z (by simpa using e);rw[show k+(i+1)=k+1+i by lia]at this;exact this
def At.l(h:At ts k (a++b)):At ts k a:=fun i z e=>h i z (by rw[Ma (Kx.mp e).1];exact e)
def At.r(h:At ts k (a++b)):At ts (k+a.length) b:=fun i z e=>by
 have:=h (a.length+i) z (by rw[L0 zo,show a.length+i-a.length=i by lia];exact e);rw[show k+(a.length+i)=k+a.length+i by lia]at this;exact this
inductive Ex where
 |num (n:Nat)
 |nm (z:Str)
 |cell (e:Ex)
 |two (o:Str) (x y:Ex)
def O8:Us:=[("+":Str),("-":Str),("&":Str),("|":Str),("^":Str),("<<":Str),(">>":Str),("<":Str),("=":Str)]
def c8:Ex->Us
 |.num n=>[(toString (n:Int):Str)]
 |.nm z=>[z]
 |.cell e=>("[":Str)::(c8 e++[("]":Str)])
 |.two o x y=>("(":Str)::(c8 x++o::(c8 y++[(")":Str)]))
def Qj(H:Hp):Ex->V->Prop
 |.num n,v=>∃p,v=.ref p/\H p=some (.tup [.str ("number":Str),.int (n:Nat)])
 |.nm z,v=>∃p,v=.ref p/\H p=some (.tup [.str ("name":Str),.str z])
 |.cell e,v=>∃p u,v=.ref p/\H p=some (.tup [.str ("cell":Str),u])/\Qj H e u
 |.two o x y,v=>∃p u t,v=.ref p/\H p=some (.tup [.str o,u,t])/\Qj H x u/\Qj H y t
def Qj.kt(k:OZ H H'):∀{e:Ex}{v:V},Qj H e v->Qj H' e v
 |.num _,_,⟨p,a,b⟩=>⟨p,a,k _ _ b⟩
 |.nm _,_,⟨p,a,b⟩=>⟨p,a,k _ _ b⟩
 |.cell _,_,⟨p,u,a,b,c⟩=>⟨p,u,a,k _ _ b,Qj.kt k c⟩
 |.two _ _ _,_,⟨p,u,t,a,b,c,d⟩=>⟨p,u,t,a,k _ _ b,Qj.kt k c,Qj.kt k d⟩
def cV(w:Nat):Nat->Ex->Prop
 |_,.num n=>n<2^w
 |_,.nm z=>OY z
 |0,.cell _=>False
 |m+1,.cell e=>cV w m e
 |0,.two _ _ _=>False
 |m+1,.two o x y=>o∈O8/\cV w m x/\cV w m y
inductive Gs where
 |cell (a e:Ex)
 |nm (z:Str) (e:Ex)
def i4:Gs->Us
 |.cell a e=>("[":Str)::(c8 a++("]":Str)::("=":Str)::(c8 e++[(";":Str)]))
 |.nm z e=>z::("=":Str)::(c8 e++[(";":Str)])
def Qg(H:Hp)(g:Gs)(v:V):Prop:=match g with
 |.cell a e=>∃p u t,v=.ref p/\H p=some (.tup [.str ("cell":Str),u,t])/\Qj H a u/\Qj H e t
 |.nm z e=>∃p t,v=.ref p/\H p=some (.tup [.str ("name":Str),.str z,t])/\Qj H e t
def Qg.kt(k:OZ H H'):∀{g:Gs}{v:V},Qg H g v->Qg H' g v
 |.cell _ _,_,⟨p,u,t,a,b,c,d⟩=>⟨p,u,t,a,k _ _ b,c.kt k,d.kt k⟩
 |.nm _ _,_,⟨p,t,a,b,c⟩=>⟨p,t,a,k _ _ b,c.kt k⟩
def Gs.isCell:Gs->Bool
 |.cell _ _=>true
 |.nm _ _=>false
def jM(w:Nat):Gs->Prop
 |.cell a e=>cV w 3 a/\cV w 3 e
 |.nm z e=>OY z/\cV w 3 e
inductive En where
 |w0 (s:Str)
 |w1 (s z:Str)
def gC:En->Us
 |.w0 s=>[s]
 |.w1 s z=>[s,z]
inductive Rx(H:Hp)(e:En)(v:V):Prop
 |mk(p:_):v=.ref p->H p=some (.tup ((gC e).map V.str))->Rx H e v
def ph:En->Prop
 |.w0 s=>s∈([(S4:Str),(Tf:Str),(Tg:Str)]:Us)
 |.w1 s z=>s∈([(Ts:Str),(SH:Str),(Sy:Str)]:Us)/\OY z/\(s=(Sy:Str)->z∉([(TV:Str),(TY:Str)]:Us))
inductive Bd where
 |leaf (sets:List Gs) (en:En)
 |ite (top:Bool) (z:Str) (y n:Bd)
def bZ:List Gs->Us
 |[]=>[]
 |g::r=>("set":Str)::(i4 g++bZ r)
def dk:Bd->Us
 |.leaf s e=>("{":Str)::(bZ s++(gC e++[("}":Str)]))
 |.ite t z y n=>("{":Str)::(Ub:Str)::((if t then [(Ta:Str),z]else [z])++(dk y++(TD:Str)::(dk n++[("}":Str)])))
inductive P9(H:Hp)(t:Bool)(z:Str)(v:V):Prop
 |mk(p:_):v=.ref p->H p=some (.tup [.str (if t then(Ta:Str)else(Ub:Str)),.str z])->P9 H t z v
def Q3(H:Hp):Bd->V->Prop
 |.leaf s e,v=>∃p q us u,v=.ref p/\H p=some (.tup [.str ("leaf":Str),.ref q,u])/\H q=some (.tup us)/\Paired (fun v g=>Qg H g v) us s/\Rx H e u
 |.ite t z y n,v=>∃p u a b,v=.ref p/\H p=some (.tup [.str (Ub:Str),u,a,b])/\P9 H t z u/\Q3 H y a/\Q3 H n b
def fA(w:Nat):Nat->Bd->Prop
 |_,.leaf s e=>s.length<=4/\(∀g∈s,jM w g)/\(∀i j:Nat,∀g h,s[i]?=some g->s[j]?=some h->g.isCell=true->h.isCell=true->i=j)/\ph e
 |0,.ite _ _ _ _=>False
 |m+1,.ite _ z y n=>OY z/\fA w m y/\fA w m n
inductive Ed where
 |num (n:Nat)
 |fld (j:Nat)
 |pl (b:Bool) (n:Nat)
 |mk(b:Bool)(n:Nat)
 |cell (e:Ed)
 |two (o:Str) (x y:Ed)
inductive Sd where
 |cell (a e:Ed)
 |pl (b:Bool) (n:Nat) (e:Ed)
 |mk(b:Bool)(n:Nat)(e:Ed)
inductive Ee where
 |w0 (s:Str)
 |fault (z:Str)
 |go (s:Str) (j:Nat)
inductive Tt where
 |top (b:Bool) (n:Nat)
 |pl (b:Bool) (n:Nat)
 |mk(b:Bool)(n:Nat)
inductive Dd where
 |leaf (s:List Sd) (e:Ee)
 |ite (t:Tt) (y n:Dd)
def jN:Sp:=fun _ _ _ _=>False
def dw:OQ P w K mg base bQ k f fd ps jN:=⟨fun _ _ _ _ h=>h.elim,fun _ _ _ _ _ _ _ _ _ _ _ _ _ h=>h.elim⟩
inductive lP(C:Ul)(m:Nat)(vs:Uv)(H:Hp)(Q:VK)(Z3:XK):Prop
 |mk(a l ts k me e:_)(w b:Nat):vs=[.ref a,.int w,.int b]->b+m=3->w<=24->O9 C H a l ts k me->At ts k (c8 e)->cV w m e->(∀v H',O9 C H' a l ts (k+(c8 e).length) me->OS a H H'->Qj H' e v->Q v H')->lP C m vs H Q Z3
inductive rK(C:Ul)(m:Nat)(vs:Uv)(H:Hp)(Q:VK):Prop
 |mk(a l ts k me e:_)(w b:Nat):vs=[.ref a,.int w,.int b]->b+m=3->w<=24->O9 C H a l ts k me->At ts k (c8 (.cell e))->cV w m e->(∀v H',O9 C H' a l ts (k+(c8 (.cell e)).length) me->OS a H H'->Qj H' (.cell e) v->Q v H')->rK C m vs H Q
def pi(C:Ul):Nat->Sp
 |0=>jN
 |m+1=>fun vs H Q _=>rK C m vs H Q
inductive vS(C:Ul)(m:Nat)(vs:Uv)(H:Hp)(Q:VK):Prop
 |mk(a l ts k me o x y:_)(w b:Nat):vs=[.ref a,.int w,.int b]->b+m=3->w<=24->O9 C H a l ts k me->At ts k (c8 (.two o x y))->o∈O8->cV w m x->cV w m y->(∀v H',O9 C H' a l ts (k+(c8 (.two o x y)).length) me->OS a H H'->Qj H' (.two o x y) v->Q v H')->vS C m vs H Q
def uf(C:Ul):Nat->Sp
 |0=>jN
 |m+1=>fun vs H Q _=>vS C m vs H Q
structure ZE(mg:Str->Option Uk)(t5:Tok):Prop where
 mb:mg "MOST_BRACKETS"=some (.int 3 t5)
def DC:Sp:=fun vs H Q _=>vs=[]/\∀p,H p=none->Q (.ref p) (aM H p (.lst (ay O8)))
def OS.kt(b:OS a H H')(h:H a=some (.ins C dx fs)):OZ H H':=fun c xs e=>b _ _ e (by
 rintro rfl;rw[h]at e;cases e)
def BW:Ex->Str
 |.num n=>(toString (n:Int):Str)
 |.nm z=>z
 |.cell _=>"["
 |.two _ _ _=>"("
def E8:∀{e:Ex},At ts k (c8 e)->(tz ts)[k]?=some (BW e)
 |.num _,h=>h.hd
 |.nm _,h=>h.hd
 |.cell _,h=>h.hd
 |.two _ _ _,h=>h.hd
def DD{n:Nat}{t:Ut}(h:∀c∈t,c<48\/57<c):(toString (n:Int):Str)≠S t:=by
 rw[iH];intro e;have e':dg n=t:=d_ (fun z:Str=>z.cps.toList) e;have hl:=(gN n).1;cases ed:dg n with
 |nil=>rw[ed]at hl;simp at hl
 |cons c r=>
  have h1:=lO n c (by rw[ed];exact KB);have h2:=h c (by rw[<-e',ed];exact KB);lia
def pj(hn:OY z)(h:∀c∈t,c<97\/122<c):z≠S t:=by
 intro e;have h1:=hn.2.1;have e':z.cps.toList=t:=d_ (fun z:Str=>z.cps.toList) e;have zl:z.length=z.cps.toList.length:=by show z.cps.size=_;simp
 cases et:t with
 |nil=>rw[e',et]at zl;simp at zl;lia
 |cons c r=>
  have hc:c∈z.cps.toList:=by rw[e',et];exact KB
  have h3:=hn.2.2.2 c hc;have h4:=h c (by rw[et];exact KB);lia
def E9:("[":Str)=S [91]:=by decide +kernel
def Hj:("(":Str)=S [40]:=by decide +kernel
def yW:∀{e:Ex},cV w m e->(∀x,e≠.cell x)->BW e≠"["
 |.num n,_,_=>by rw[E9];exact DD (by simp)
 |.nm z,h,_=>by
  have hn:OY z:=by cases m<;>exact h
  rw[E9];exact pj hn (by simp)
 |.cell x,_,h=>absurd rfl (h x)
 |.two _ _ _,_,_=>by show("(":Str)≠"[";decide +kernel
def yX:∀{e:Ex},cV w m e->(∀o x y,e≠.two o x y)->BW e≠"("
 |.num n,_,_=>by rw[Hj];exact DD (by simp)
 |.nm z,h,_=>by
  have hn:OY z:=by cases m<;>exact h
  rw[Hj];exact pj hn (by simp)
 |.two o x y,_,h=>absurd rfl (h o x y)
 |.cell _,_,_=>by show("[":Str)≠"(";decide +kernel
section
def Hk:az [] [] (ak EJ):=cv zk
def Fa(F:O0 K "ops_told" "ops_told" EJ f fd)(T:Bl mg)(ho:mg "OPS"=some (.ref aO))(hd:kg w K aO kvs)(hk:kvs.map (·.1)=O8)(lo:(aO==sysModules)=false):OQ P w K mg base bQ 1 f fd [] DC:=by
 have ZZ:=Hk
 walk_at "o"
 ·obtain⟨rfl,q⟩:=h;refine⟨_,ag (aw (aY (mV rfl) (by rfl) T.list cF (aa (bE (v:=.ref aO) rfl ho rfl) ab))),?_⟩;have hl:kvs.length=9:=by
   have:=d_ List.length hk;rw[Ky]at this;exact this
  refine⟨aO,kvs,rfl,hd,by rw[hk];decide +kernel,lo,zo,fun p hp=>?_⟩;have e:(kvs.map fun kv=>V.str kv.1)=ay O8:=by
   unfold ay;rw[<-hk,Lz];rfl
  rw[e];exact q p hp
def QR:az [Sv,Sr,SV,"address"] [Sv,Sr,SV] (ak jG):=cv zk
def lQ(F:O0 K "read_cell" "read_cell" jG f fd)(T:sJ P w K mg base C)(EX:Fn P w K mg base "read_expression" n [Sv,Sr,SV] (lP C m))(hn:3<=n):OQ P w K mg base bQ (n+1) f fd [Sv,Sr,SV] (pi C (m+1)):=by
 have ZZ:=QR
 walk_at "o"
 ·obtain⟨a,l,ts,k,me,e,w,b,rfl,hb,hw,hR,hA,hE,q⟩:=h;have MF:OU 2 _:=hr.mono zo;refine⟨_,ac (aQ (be (pv 0) (aa (aK (aa ai ab)) ab)))
   (ac (bL (i:=3) QR.nd (ax EX hr rfl (aa (pv 0) (aa (pv 1) (aa (pv 2) ab)))))
   (ac (aQ (be (pv 0) (aa (aK (aa ai ab)) ab)))
   (ag (aw (aK (aa ai (aa (pv 3) ab))))))),?_⟩
  obtain⟨f1,MG,M1,F1,B1⟩:=T.need;obtain⟨dx,ho⟩:=hR.ob;have S':At ts k (("[":Str)::(c8 e++[("]":Str)])):=hA;refine⟨_,rfl,a,dx,C,f1,_,MG,2,[Sm,SX],_,rfl,ho,rfl,T.cl,M1,F1,MF,B1,OT,fun p1 n1=>?_⟩;have s1:=aj (o:=.tup [.str "["]) n1;refine⟨a,l,ts,k,me,"[",p1,["["],rfl,hR.same s1,S'.hd,.inr (ON.of ae),KB,fun H1 r1 b1=>?_⟩;have Xi:OS a H H1:=(bU s1).trans b1;refine⟨_,rfl,_,rfl,_,rfl,a,l,ts,k+1,me,e,w,b,rfl,hb,hw,r1,S'.tl.l,hE,fun u H2 r2 b2 v2=>?_⟩;obtain⟨Va,UD⟩:=r2.ob;refine⟨_,rfl,a,Va,C,f1,_,MG,2,[Sm,SX],_,rfl,UD,rfl,T.cl,M1,F1,MF,B1,OT,fun p3 n3=>?_⟩;have s3:=aj (o:=.tup [.str "]"]) n3;refine⟨a,l,ts,k+1+(c8 e).length,me,"]",p3,["]"],rfl,r2.same s3,S'.tl.r.hd,.inr (ON.of ae),KB,fun H4 r4 b4=>?_⟩;have W3:OS a H2 H4:=(bU s3).trans b4;refine⟨_,rfl,OT,fun p np=>?_⟩;have s5:=aj (o:=.tup [.str "cell",u]) np;have MD:k+(c8 (.cell e)).length=k+1+(c8 e).length+1:=by
   show k+(("[":Str)::(c8 e++[("]":Str)])).length=_;simp;lia
  refine q _ _ (by rw[MD];exact r4.same s5) (((Xi.trans b2).trans W3).same s5) ⟨p,u,rfl,ae,?_⟩;exact(v2.kt (W3.kt UD)).kt (av s5)
def Qv:az [Sv,Sr,SV,"one","op","other"] [Sv,Sr,SV] (ak lE):=cv zk
def pq(F:O0 K "read_two" "read_two" lE f fd)(T:sJ P w K mg base C)(EX:Fn P w K mg base "read_expression" n [Sv,Sr,SV] (lP C m))(OP:Fn P w K mg base "ops_told" 1 [] DC)(hn:3<=n):OQ P w K mg base bQ (n+1) f fd [Sv,Sr,SV] (uf C (m+1)):=by
 have ZZ:=Qv
 walk_at "o"
 ·obtain⟨a,l,ts,k,me,o,x,y,w,b,rfl,hb,hw,hR,hA,Zu,hX,hY,q⟩:=h;have MF:OU 2 _:=hr.mono zo;have ME:OU 1 _:=hr.mono zo;refine⟨_,ac (aQ (be (pv 0) (aa (aK (aa ai ab)) ab)))
   (ac (bL (i:=3) Qv.nd (ax EX hr rfl (aa (pv 0) (aa (pv 1) (aa (pv 2) ab)))))
   (ac (bL (i:=4) Qv.nd (be (pv 0) (aa (EM OP ME rfl) ab)))
   (ac (bL (i:=5) Qv.nd (ax EX hr rfl (aa (pv 0) (aa (pv 1) (aa (pv 2) ab)))))
   (ac (aQ (be (pv 0) (aa (aK (aa ai ab)) ab)))
   (ag (aw (aK (aa (pv 4) (aa (pv 3) (aa (pv 5) ab)))))))))),?_⟩
  obtain⟨f1,MG,M1,F1,B1⟩:=T.need;obtain⟨dx,ho⟩:=hR.ob;have S':At ts k (("(":Str)::(c8 x++o::(c8 y++[(")":Str)]))):=hA;have Vu:=S'.tl.r;refine⟨_,rfl,a,dx,C,f1,_,MG,2,[Sm,SX],_,rfl,ho,rfl,T.cl,M1,F1,MF,B1,OT,fun p1 n1=>?_⟩;have s1:=aj (o:=.tup [.str "("]) n1;refine⟨a,l,ts,k,me,"(",p1,["("],rfl,hR.same s1,S'.hd,.inr (ON.of ae),KB,fun H1 r1 b1=>?_⟩;have Xi:OS a H H1:=(bU s1).trans b1;refine⟨_,rfl,_,rfl,_,rfl,a,l,ts,k+1,me,x,w,b,rfl,hb,hw,r1,S'.tl.l,hX,fun u H2 r2 b2 v2=>?_⟩;obtain⟨Va,UD⟩:=r2.ob;refine⟨_,rfl,a,Va,C,f1,_,MG,2,[Sm,SX],_,rfl,UD,rfl,T.cl,M1,F1,MF,B1,rfl,fun p3 n3=>?_⟩;have s3:=aj (o:=.lst (ay O8)) n3;refine⟨a,l,ts,k+1+(c8 x).length,me,o,p3,O8,rfl,r2.same s3,Vu.hd,.inl (OO.of ae),Zu,fun H4 r4 b4=>?_⟩;have W3:OS a H2 H4:=(bU s3).trans b4;have v4:=v2.kt (W3.kt UD);obtain⟨Wx,Vd⟩:=r4.ob;refine⟨_,rfl,_,rfl,_,rfl,a,l,ts,k+1+(c8 x).length+1,me,y,w,b,rfl,hb,hw,r4,Vu.tl.l,hY,fun t H5 r5 b5 v5=>?_⟩;obtain⟨W0,Vr⟩:=r5.ob;refine⟨_,rfl,a,W0,C,f1,_,MG,2,[Sm,SX],_,rfl,Vr,rfl,T.cl,M1,F1,MF,B1,OT,fun p6 n6=>?_⟩;have s6:=aj (o:=.tup [.str ")"]) n6;refine⟨a,l,ts,k+1+(c8 x).length+1+(c8 y).length,me,")",p6,[")"],rfl,r5.same s6,Vu.tl.r.hd,.inr (ON.of ae),KB,fun H7 r7 b7=>?_⟩;have b57:OS a H5 H7:=(bU s6).trans b7;refine⟨_,rfl,_,rfl,_,rfl,OT,fun p np=>?_⟩;have s8:=aj (o:=.tup [.str o,u,t]) np;have MD:k+(c8 (.two o x y)).length=k+1+(c8 x).length+1+(c8 y).length+1:=by
   show k+(("(":Str)::(c8 x++o::(c8 y++[(")":Str)]))).length=_;simp;lia
  refine q _ _ (by rw[MD];exact r7.same s8) (((((Xi.trans b2).trans W3).trans b5).trans b57).same s8) ⟨p,u,t,rfl,ae,?_,?_⟩
  ·exact((v4.kt (b5.kt Vd)).kt (b57.kt Vr)).kt (av s8)
  ·exact(v5.kt (b57.kt Vr)).kt (av s8)
def Rb:az [Sv,Sr,SV,Uh] [Sv,Sr,SV] (ak jF):=cv zk
def kq(F:O0 K "read_expression" "read_expression" jF f fd)(T:sJ P w K mg base C)(Z:ZE mg t5)(NM:Fn P w K mg base "is_name" 1 [SA] yU)(CE:Fn P w K mg base "read_cell" n [Sv,Sr,SV] (pi C m))(TW:Fn P w K mg base "read_two" n [Sv,Sr,SV] (uf C m))(hn:3<=n):OQ P w K mg base bQ (n+1) f fd [Sv,Sr,SV] (lP C m):=by
 have ZZ:=Rb
 walk_at "o"
 ·obtain⟨a,l,ts,k,me,e,w,b,rfl,hb,hw,hR,hA,hE,q⟩:=h;have ME:OU 1 _:=hr.mono zo;have Vq:OU 3 _:=hr.mono zo;refine⟨_,ac (bL (i:=3) Rb.nd (bh (pv 0)))
   (ac (aT (dh (fun _ H'=>H'=H/\∃x,e=.cell x) (fun _ H'=>H'=H/\∀x,e≠.cell x) (PW.pt (ck (aq eR (pv 2) (bE (v:=.int 3) rfl Z.mb ⟨_,rfl⟩)) (bM (aq aX (pv 3) ai))))) (ag (aw (ax CE hr rfl (aa (pv 0) (aa (pv 1) (aa (aH bX (pv 2) af) ab)))))) aG)
   (ac (aT (dh (fun _ H'=>H'=H/\∃o x y,e=.two o x y) (fun _ H'=>H'=H/\∀o x y,e≠.two o x y) (PW.pt (ck (aq eR (pv 2) (bE (v:=.int 3) rfl Z.mb ⟨_,rfl⟩)) (bM (aq aX (pv 3) ai))))) (ag (aw (ax TW hr rfl (aa (pv 0) (aa (pv 1) (aa (aH bX (pv 2) af) ab)))))) aG)
   (ac (aT (bT (ax NM ME rfl (aa (pv 3) ab))) (ag (aw (aK (aa ai (aa (bh (pv 0)) ab))))) aG)
   (ag (aw (aK (aa ai (aa (be (pv 0) (aa af (aa (aH cU (aH gq af (pv 1)) af) ab))) ab)))))))),?_⟩
  obtain⟨f1,MG,M1,F1,B1⟩:=T.look;obtain⟨f2,UF,M2,F2,B2⟩:=T.take;obtain⟨f3,UE,M3,F3,B3⟩:=T.nnum;obtain⟨dx,ho⟩:=hR.ob;have hz:=E8 hA;refine⟨_,rfl,a,dx,C,f1,_,MG,1,[Sm],_,rfl,ho,rfl,T.cl,M1,F1,ME,B1,a,l,ts,k,me,BW e,rfl,hR,hz,?_⟩;refine⟨?_,?_,?_⟩
  ·rintro H' ⟨rfl,x,rfl⟩;cases m with
   |zero=>exact absurd hE (by simp[cV])
   |succ m=>
    refine⟨_,rfl,_,rfl,_,rfl,_,_,rfl,rfl,a,l,ts,k,me,x,w,b+1,rfl,zo,hw,hR,hA,hE,q⟩
  ·rintro H' ⟨rfl,hnc⟩;refine⟨?_,?_,?_⟩
   ·rintro H' ⟨rfl,o,x,y,rfl⟩;cases m with
    |zero=>exact absurd hE (by simp[cV])
    |succ m=>
     obtain⟨h1,h2,h3⟩:=hE;exact⟨_,rfl,_,rfl,_,rfl,_,_,rfl,rfl,a,l,ts,k,me,o,x,y,w,b+1,rfl,zo,hw,hR,hA,h1,h2,h3,q⟩
   ·rintro H' ⟨rfl,Xa⟩;cases e with
    |cell x=>exact absurd rfl (hnc x)
    |two o x y=>exact absurd rfl (Xa o x y)
    |nm z=>
     have hN:OY z:=by cases m<;>exact hE
     have hS:=yG z;refine⟨_,rfl,z.cps.toList,d_ (fun x=>[V.str x]) hS,?_,fun H1 s1=>⟨_,rfl,bF (E7 hN) ?_⟩⟩
     ·have zl:z.length=z.cps.toList.length:=by show z.cps.size=_;simp
      have:=hN.2.2.1;lia
     refine⟨_,rfl,a,dx,C,f2,_,UF,1,[Sm],_,rfl,s1 _ _ ho,rfl,T.cl,M2,F2,ME,B2,a,l,ts,k,me,z,rfl,hR.same s1,hz,fun H2 r2 b2=>?_⟩;refine⟨OT,fun p np=>?_⟩;have s3:=aj (o:=.tup [.str "name",.str z]) np;exact q _ _ (r2.same s3) (((bU s1).trans b2).same s3) ⟨p,rfl,ae⟩
    |num i=>
     have hi:i<2^w:=by cases m<;>exact hE
     have h24:2^w<=2^24:=K0 zd hw;have hS:=iH i;refine⟨_,rfl,dg i,d_ (fun x=>[V.str x]) hS,?_,fun H1 s1=>⟨_,rfl,bi (Hi i) ?_⟩⟩
     ·have:=(gN i).2 8 zd zo;lia
     have hpw:(1*2^((w:Int)).toNat-1:Int)=((2^w-1:Nat):Int):=by
      rw[Lu,RE];have:0<2^w:=Mt zd;have e2:((2^w:Nat):Int)=(2:Int)^w:=by norm_cast
      lia
     refine⟨_,rfl,a,dx,C,f3,_,UE,3,[Sm,TU,S1],_,rfl,s1 _ _ ho,rfl,T.cl,M3,F3,Vq,B3,_,rfl,_,_,rfl,rfl,⟨zo,zo,zd⟩,_,_,rfl,rfl,a,l,ts,k,me,i,0,2^w-1,?_,hR.same s1,hz,zo,zo,zo,fun H2 r2 b2=>?_⟩
     ·show [V.ref a,V.int 0,V.int (1*2^((w:Int)).toNat-1)]=_;rw[hpw];rfl
     refine⟨OT,fun p np=>?_⟩;have s3:=aj (o:=.tup [.str "number",.int (i:Nat)]) np;exact q _ _ (r2.same s3) (((bU s1).trans b2).same s3) ⟨p,rfl,ae⟩
   ·refine⟨_,rfl,_,_,rfl,rfl,_,rfl,?_⟩;by_cases ht:∃o x y,e=.two o x y
    ·obtain⟨o,x,y,rfl⟩:=ht;have hm:m≠0:=by
      rintro rfl;simp[cV]at hE
     refine bF (a_ zo) ⟨_,rfl,rfl,_,rfl,bF (a_ rfl) ⟨rfl,o,x,y,rfl⟩⟩
    ·have Xa:∀o x y,e≠.two o x y:=fun o x y h=>ht ⟨o,x,y,h⟩;refine ce (fun _=>⟨_,rfl,rfl,_,rfl,bi (b_ fun h=>yX hE Xa (V.str.inj h)) ⟨rfl,Xa⟩⟩) (fun _=>bP ⟨rfl,Xa⟩)
  ·refine⟨_,rfl,_,_,rfl,rfl,_,rfl,?_⟩;by_cases ht:∃x,e=.cell x
   ·obtain⟨x,rfl⟩:=ht;have hm:m≠0:=by
     rintro rfl;simp[cV]at hE
    refine bF (a_ zo) ⟨_,rfl,rfl,_,rfl,bF (a_ rfl) ⟨rfl,x,rfl⟩⟩
   ·have Xa:∀x,e≠.cell x:=fun x h=>ht ⟨x,h⟩;refine ce (fun _=>⟨_,rfl,rfl,_,rfl,bi (b_ fun h=>yW hE Xa (V.str.inj h)) ⟨rfl,Xa⟩⟩) (fun _=>bP ⟨rfl,Xa⟩)
end
def db:Us:=[Sn,Su,"number",S2]
structure uh(K:ZF)(mg:Str->Option Uk)(aS aE aF:Ul)(t1 t2 t3 t4:Tok):Prop where
 sorts:mg "SORTS"=some (.ref aS)
 sortsq:∀H,ON K H aS (ay db)
 ends:mg "ENDS"=some (.ref aE)
 endsq:∀H,ON K H aE (ay [S4,Ts,SH,Tf,Tg,Sy])
 owf:mg "OWN_FAULTS"=some (.ref aF)
 owfq:∀H,ON K H aF (ay [TV,TY])
 mf:mg "MOST_FIELDS"=some (.int 3 t1)
 ms:mg "MOST_SETS"=some (.int 4 t2)
 mc:mg "MOST_CHOICES"=some (.int 3 t3)
 mkn:mg "MOST_KINDS"=some (.int 8 t4)
inductive Pc(H:Hp)(u:V)(x:Str×Str):Prop
 |mk(p:_):u=.ref p->H p=some (.tup [.str x.1,.str x.2])->Pc H u x
inductive pz(C:Ul)(vs:Uv)(H:Hp)(Q:VK)(Z3:XK):Prop
 |mk(a l ts k me:_)(x:Str×Str):vs=[.ref a]->O9 C H a l ts k me->(tz ts)[k]?=some x.1->OY x.1->(tz ts)[k+1]?=some x.2->x.2∈db->(∀p H',O9 C H' a l ts (k+2) me->OS a H H'->H p=none->H' p=some (.tup [.str x.1,.str x.2])->Q (.ref p) H')->pz C vs H Q Z3
section
def i5(b:OS a H H')(ho:H' a=some (.ins C dx fs))(n:H' p=none):H p=none:=by
 by_cases h:p=a
 ·subst h;rw[ho]at n;cases n
 ·cases hx:H p with
  |none=>rfl
  |some o=>
   have:=b _ _ hx h;rw[n]at this;cases this
def QQ:az [Sv,"name"] [Sv] (ak iz):=cv zk
def yY(F:O0 K "read_field" "read_field" iz f fd)(T:sJ P w K mg base C)(Z:uh K mg aS aE aF t1 t2 t3 t4):OQ P w K mg base bQ 3 f fd [Sv] (pz C):=by
 have ZZ:=QQ
 walk_at "o"
 ·obtain⟨a,l,ts,k,me,x,rfl,hR,h0,hn,h1,hs,q⟩:=h;refine⟨_,ac (bL (i:=1) QQ.nd (bh (pv 0))) (ag (aw (aK (aa (pv 1) (aa (be (pv 0) (aa (bE (v:=.ref aS) rfl Z.sorts rfl) ab)) ab))))),?_⟩;obtain⟨f1,MG,M1,F1,B1⟩:=T.need;obtain⟨f2,UF,M2,F2,B2⟩:=T.nname;obtain⟨dx,ho⟩:=hR.ob;refine⟨_,rfl,a,dx,C,f2,_,UF,2,[Sm],_,rfl,ho,rfl,T.cl,M2,F2,hr,B2,a,l,ts,k,me,x.1,rfl,hR,h0,hn,fun H1 r1 b1=>?_⟩;obtain⟨Vg,UL⟩:=r1.ob;refine⟨_,rfl,_,rfl,a,Vg,C,f1,_,MG,2,[Sm,SX],_,rfl,UL,rfl,T.cl,M1,F1,hr,B1,a,l,ts,k+1,me,x.2,aS,db,rfl,r1,h1,.inr (Z.sortsq _),hs,fun H2 r2 b2=>?_⟩;obtain⟨Va,UD⟩:=r2.ob;refine⟨OT,fun p np=>?_⟩;have s3:=aj (o:=.tup [.str x.1,.str x.2]) np;exact q p _ (r2.same s3) ((b1.trans b2).same s3) (i5 (b1.trans b2) UD np) ae
end
inductive lR(C:Ul)(vs:Uv)(H:Hp)(Q:VK)(Z3:XK):Prop
 |mk(a l ts k me e:_):vs=[.ref a]->O9 C H a l ts k me->At ts k (gC e)->ph e->(∀v H',O9 C H' a l ts (k+(gC e).length) me->OS a H H'->Rx H' e v->Q v H')->lR C vs H Q Z3
inductive ui(C:Ul)(vs:Uv)(H:Hp)(Q:VK)(Z3:XK):Prop
 |mk(a l ts k me g:_)(w:Nat)(cf:Bool):vs=[.ref a,.int w,.bl cf]->w<=24->(g.isCell=true->cf=true)->O9 C H a l ts k me->At ts k (i4 g)->jM w g->(∀v H',O9 C H' a l ts (k+(i4 g).length) me->OS a H H'->Qg H' g v->Q v H')->ui C vs H Q Z3
inductive pA(C:Ul)(vs:Uv)(H:Hp)(Q:VK)(Z3:XK):Prop
 |mk(a l ts k me s e:_)(w:Nat):vs=[.ref a,.int w]->w<=24->O9 C H a l ts k me->At ts k (bZ s++gC e)->fA w 0 (.leaf s e)->(∀v H',O9 C H' a l ts (k+(bZ s++gC e).length) me->OS a H H'->Q3 H' (.leaf s e) v->Q v H')->pA C vs H Q Z3
def Rx.kt(k:OZ H H')(h:Rx H e v):Rx H' e v:=let⟨p,a,b⟩:=h;⟨p,a,k _ _ b⟩
def Be:En->Str
 |.w0 s=>s
 |.w1 s _=>s
def pB(h:ph e):Be e∈([S4,Ts,SH,Tf,Tg,Sy]:Us):=by
 cases e with
 |w0 s=>
  have h':s∈([S4,Tf,Tg]:Us):=h;simp only[KH,KY,j_]at h';show s∈_;rcases h' with rfl|rfl|rfl<;>decide +kernel
 |w1 s z=>
  have h':s∈([Ts,SH,Sy]:Us):=h.1;simp only[KH,KY,j_]at h';show s∈_;rcases h' with rfl|rfl|rfl<;>decide +kernel
def yZ(h:At ts k (gC e)):(tz ts)[k]?=some (Be e):=by
 cases e with
 |w0 s=>exact h.hd
 |w1 s z=>exact h.hd
section
def Rs:az [Sv,"end"] [Sv] (ak lD):=cv zk
def BX(F:O0 K "read_end" "read_end" lD f fd)(T:sJ P w K mg base C)(Z:uh K mg aS aE aF t1 t2 t3 t4):OQ P w K mg base bQ 3 f fd [Sv] (lR C):=by
 have ZZ:=Rs
 walk_at "o"
 ·obtain⟨a,l,ts,k,me,e,rfl,hR,hA,hE,q⟩:=h;refine⟨_,ac (bL (i:=1) Rs.nd (be (pv 0) (aa (bE (v:=.ref aE) rfl Z.ends rfl) ab)))
   (ac (aT (dh (fun _ _=>False) (fun _ H'=>O9 C H' a l ts (k+1) me/\OS a H H') (PW.pt (ck (aq aX (pv 1) ai) (bM (aq eA (bh (pv 0)) (bE (v:=.ref aF) rfl Z.owf rfl) rfl))))) (ag bV) aG)
   (ac (aT (aq eA (pv 1) (aK (aa ai (aa ai (aa ai ab)))) rfl) (ag (aw (aK (aa (pv 1) (aa (bh (pv 0)) ab))))) aG)
   (ag (aw (aK (aa (pv 1) ab)))))),?_⟩
  obtain⟨f1,MG,M1,F1,B1⟩:=T.need;obtain⟨f2,UF,M2,F2,B2⟩:=T.nname;obtain⟨f3,UE,M3,F3,B3⟩:=T.look;obtain⟨dx,ho⟩:=hR.ob;refine⟨_,rfl,a,dx,C,f1,_,MG,2,[Sm,SX],_,rfl,ho,rfl,T.cl,M1,F1,hr,B1,a,l,ts,k,me,Be e,aE,[S4,Ts,SH,Tf,Tg,Sy],rfl,hR,yZ hA,.inr (Z.endsq _),pB hE,fun H1 r1 b1=>?_⟩;refine⟨fun _ z=>z.elim,?_,?_⟩
  ·rintro H2 ⟨r2,b2⟩;obtain⟨Va,UD⟩:=r2.ob;refine⟨_,rfl,OT,fun t3' n3=>?_⟩;have s3:=aj (o:=.tup [.str Ts,.str SH,.str Sy]) n3;have e3:j7 (.str (Be e)) [.str Ts,.str SH,.str Sy]=([Ts,SH,Sy]:Us).contains (Be e):=dU _ [Ts,SH,Sy];refine⟨t3',_,rfl,.inr (ON.of ae),rfl,rfl,_,rfl,ce (fun h=>?_) (fun h=>?_)⟩
   ·have h':([Ts,SH,Sy]:Us).contains (Be e)=true:=by rw[<-e3];exact h
    cases e with
    |w0 s=>
     exfalso;have h1:s∈([S4,Tf,Tg]:Us):=hE;have h2:s∈([Ts,SH,Sy]:Us):=Lg.mp h';simp only[KH,KY,j_]at h1;rcases h1 with rfl|rfl|rfl<;>revert h2<;>decide +kernel
    |w1 s z=>
     have S':At ts k [s,z]:=hA;refine⟨_,rfl,_,rfl,a,Va,C,f2,_,UF,2,[Sm],_,rfl,s3 _ _ UD,rfl,T.cl,M2,F2,hr,B2,a,l,ts,k+1,me,z,rfl,r2.same s3,S'.tl.hd,hE.2.1,fun H4 r4 b4=>?_⟩;refine⟨OT,fun p np=>?_⟩;have s5:=aj (o:=.tup [.str s,.str z]) np;exact q _ _ (r4.same s5) (((b2.same s3).trans b4).same s5) ⟨p,rfl,ae⟩
   ·have h':([Ts,SH,Sy]:Us).contains (Be e)=false:=by rw[<-e3];exact Mb.mpr h
    cases e with
    |w1 s z=>
     exfalso;have Wu:([Ts,SH,Sy]:Us).contains s=false:=h';rw[Lg.mpr hE.1]at Wu;cases Wu
    |w0 s=>
     refine⟨_,rfl,OT,fun p np=>?_⟩;have s5:=aj (o:=.tup [.str s]) np;exact q _ _ ((r2.same s3).same s5) ((b2.same s3).same s5) ⟨p,rfl,ae⟩
  ·obtain⟨Vg,UL⟩:=r1.ob;refine⟨_,rfl,rfl,_,rfl,ce (fun h=>?_) (fun h=>bP ⟨r1,b1⟩)⟩;have hf:Be e=Sy:=V.str.inj (h_ h);cases e with
   |w0 s=>
    exfalso;have h1:s∈([S4,Tf,Tg]:Us):=hE;have h2:s=Sy:=hf;rw[h2]at h1;revert h1;decide +kernel
   |w1 s z=>
    have S':At ts k [s,z]:=hA;have hs:s=Sy:=hf;have hz:=hE.2.2 hs;have e3:j7 (.str z) (ay [TV,TY])=([TV,TY]:Us).contains z:=dU _ _;refine⟨_,rfl,a,Vg,C,f3,_,UE,1,[Sm],_,rfl,UL,rfl,T.cl,M3,F3,hr.m,B3,a,l,ts,k+1,me,z,rfl,r1,S'.tl.hd,aF,_,rfl,.inr (Z.owfq _),rfl,eI _,_,rfl,bi ?_ ⟨r1,b1⟩⟩;show j7 (.str z) (ay [TV,TY])=false;rw[e3];exact Mb.mpr fun h=>hz (Lg.mp h)
def vT:Gs->Us
 |.cell a _=>("[":Str)::(c8 a++[("]":Str)])
 |.nm z _=>[z]
def uj:Gs->Ex
 |.cell _ e=>e
 |.nm _ e=>e
def uk(g:Gs):i4 g=vT g++("=":Str)::(c8 (uj g)++[(";":Str)]):=by
 cases g with
 |cell a e=>
  show("[":Str)::(c8 a++("]":Str)::("=":Str)::(c8 e++[(";":Str)]))=(("[":Str)::(c8 a++[("]":Str)]))++_;simp[uj]
 |nm z e=>rfl
def HdV(H:Hp)(g:Gs)(u:V):Prop:=match g with
 |.cell a _=>Qj H a u
 |.nm z _=>u=.str z
def HdV.kt(k:OZ H H')(h:HdV H g u):HdV H' g u:=by
 cases g with
 |cell a e=>exact Qj.kt k h
 |nm z e=>exact h
def xc:Gs->Str
 |.cell _ _=>"cell"
 |.nm _ _=>"name"
def Hl(h:jM w g):cV w 3 (uj g):=by
 cases g with
 |cell a e=>exact h.2
 |nm z e=>exact h.2
def PV:az [Sv,Sr,Tv,Tq,TZ,SE] [Sv,Sr,Tv] (ak lC):=cv zk
inductive y0(a:Ul)(w:Nat)(g:Gs)(C:Ul)(l:Ul)(ts:Us)(k:Nat)(me:Bool)(H:Hp)(σ:St)(H':Hp):Prop
 |mk(ug:_):σ=[some (.ref a),some (.int (w:Nat)),some (.bl cf),some (.str (xc g)),some ug,none]->O9 C H' a l ts (k+(vT g).length) me->OS a H H'->HdV H' g ug->y0 a w g C l ts k me H σ H'
def BY(F:O0 K "read_set" "read_set" lC f fd)(T:sJ P w K mg base C)(EX:Fn P w K mg base "read_expression" n [Sv,Sr,SV] (lP C 3))(hn:3<=n):OQ P w K mg base bQ (n+1) f fd [Sv,Sr,Tv] (ui C):=by
 have ZZ:=PV
 walk_at "o"
 ·obtain⟨a,l,ts,k,me,g,w,cf,rfl,hw,hcf,hR,hA,hG,q⟩:=h;have ME:OU 1 _:=hr.mono zo;have MF:OU 2 _:=hr.mono zo;refine⟨_,bN (y0 a w g C l ts k me H) (aT (dh (fun _ H'=>H'=H/\g.isCell=true) (fun _ H'=>H'=H/\g.isCell=false) (PW.pt (ck (bT (pv 2)) (bM (aq aX (bh (pv 0)) ai)))))
     (ac (aQ (bh (pv 0))) (ac (bL (i:=3) PV.nd ai) (ac (bL (i:=4) PV.nd (ax EX hr rfl (aa (pv 0) (aa (pv 1) (aa af ab))))) (ag (aQ (be (pv 0) (aa (aK (aa ai ab)) ab)))))))
     (ac (bL (i:=3) PV.nd ai) (ag (bL (i:=4) PV.nd (bh (pv 0))))))
   (ac (aQ (be (pv 0) (aa (aK (aa ai ab)) ab)))
   (ac (bL (i:=5) PV.nd (ax EX hr rfl (aa (pv 0) (aa (pv 1) (aa af ab)))))
   (ac (aQ (be (pv 0) (aa (aK (aa ai ab)) ab)))
   (ag (aw (aK (aa (pv 3) (aa (pv 4) (aa (pv 5) ab))))))))),?_⟩
  obtain⟨f1,MG,M1,F1,B1⟩:=T.need;obtain⟨f2,UF,M2,F2,B2⟩:=T.nname;obtain⟨f3,UE,M3,F3,B3⟩:=T.look;obtain⟨f4,XJ,M4,F4,B4⟩:=T.take;rw[uk]at hA;have Vu:=hA.r;obtain⟨dx,ho⟩:=hR.ob;refine⟨?_,?_,?_,?_⟩
  ·rintro σ H1 ⟨ug,rfl,r1,b1,v1⟩;obtain⟨Vg,UL⟩:=r1.ob;refine⟨_,rfl,a,Vg,C,f1,_,MG,2,[Sm,SX],_,rfl,UL,rfl,T.cl,M1,F1,MF,B1,OT,fun p2 n2=>?_⟩;have s2:=aj (o:=.tup [.str "="]) n2;refine⟨a,l,ts,k+(vT g).length,me,"=",p2,["="],rfl,r1.same s2,Vu.hd,.inr (ON.of ae),KB,fun H3 r3 b3=>?_⟩;have b13:OS a H1 H3:=(bU s2).trans b3;have v3:=v1.kt (b13.kt UL);obtain⟨Wl,U9⟩:=r3.ob;refine⟨_,rfl,_,rfl,a,l,ts,k+(vT g).length+1,me,uj g,w,0,rfl,rfl,hw,r3,Vu.tl.l,Hl hG,fun t H4 r4 b4 v4=>?_⟩;have v4':=v3.kt (b4.kt U9);obtain⟨Wx,Vd⟩:=r4.ob;refine⟨_,rfl,a,Wx,C,f1,_,MG,2,[Sm,SX],_,rfl,Vd,rfl,T.cl,M1,F1,MF,B1,OT,fun p5 n5=>?_⟩;have s5:=aj (o:=.tup [.str ";"]) n5;refine⟨a,l,ts,k+(vT g).length+1+(c8 (uj g)).length,me,";",p5,[";"],rfl,r4.same s5,Vu.tl.r.hd,.inr (ON.of ae),KB,fun H6 r6 b6=>?_⟩;have Wy:OS a H4 H6:=(bU s5).trans b6;refine⟨_,rfl,_,rfl,_,rfl,OT,fun p np=>?_⟩;have s7:=aj (o:=.tup [.str (xc g),ug,t]) np;have Xz:OZ H4 (aM H6 p (.tup [.str (xc g),ug,t])):=(Wy.kt Vd).trans (av s7);have MD:k+(i4 g).length=k+(vT g).length+1+(c8 (uj g)).length+1:=by
    rw[uk];simp;lia
   refine q _ _ (by rw[MD];exact r6.same s7) ((((b1.trans b13).trans b4).trans Wy).same s7) ?_;have vE:=Qj.kt Xz v4;have vH:=v4'.kt Xz;cases g with
   |cell a' e'=>exact⟨p,ug,t,rfl,ae,vH,vE⟩
   |nm z e'=>
    have:ug=.str z:=v1;subst this;exact⟨p,t,rfl,ae,vE⟩
  ·rintro H1 ⟨rfl,hc⟩;cases g with
   |nm z e=>cases hc
   |cell a' e=>
    have S':At ts k (("[":Str)::(c8 a'++[("]":Str)])):=hA.l;refine⟨_,rfl,a,dx,C,f4,_,XJ,1,[Sm],_,rfl,ho,rfl,T.cl,M4,F4,ME,B4,a,l,ts,k,me,"[",rfl,hR,S'.hd,fun H2 r2 b2=>?_⟩;refine⟨_,rfl,_,rfl,a,l,ts,k+1,me,a',w,0,rfl,rfl,hw,r2,S'.tl.l,hG.1,fun u H3 r3 b3 v3=>?_⟩;obtain⟨Wl,U9⟩:=r3.ob;refine⟨_,rfl,a,Wl,C,f1,_,MG,2,[Sm,SX],_,rfl,U9,rfl,T.cl,M1,F1,MF,B1,OT,fun p5 n5=>?_⟩;have s5:=aj (o:=.tup [.str "]"]) n5;refine⟨a,l,ts,k+1+(c8 a').length,me,"]",p5,["]"],rfl,r3.same s5,S'.tl.r.hd,.inr (ON.of ae),KB,fun H6 r6 b6=>?_⟩;have b36:OS a H3 H6:=(bU s5).trans b6;have MD:k+(vT (.cell a' e)).length=k+1+(c8 a').length+1:=by
     show k+(("[":Str)::(c8 a'++[("]":Str)])).length=_;simp;lia
    exact⟨u,rfl,by rw[MD];exact r6,(b2.trans b3).trans b36,Qj.kt (b36.kt U9) v3⟩
  ·rintro H1 ⟨rfl,hc⟩;cases g with
   |cell a' e=>cases hc
   |nm z e=>
    have S':At ts k [z]:=hA.l;refine⟨_,rfl,a,dx,C,f2,_,UF,2,[Sm],_,rfl,ho,rfl,T.cl,M2,F2,MF,B2,a,l,ts,k,me,z,rfl,hR,S'.hd,hG.1,fun H2 r2 b2=>?_⟩;exact⟨_,rfl,r2,b2,rfl⟩
  ·refine⟨_,rfl,cf,rfl,?_⟩;cases g with
   |cell a' e=>
    have S':At ts k (("[":Str)::(c8 a'++[("]":Str)])):=hA.l;rw[hcf rfl];refine fC ⟨_,rfl,a,dx,C,f3,_,UE,1,[Sm],_,rfl,ho,rfl,T.cl,M3,F3,ME,B3,a,l,ts,k,me,"[",rfl,hR,S'.hd,rfl,_,rfl,bF (a_ rfl) ⟨rfl,rfl⟩⟩
   |nm z e=>
    have S':At ts k [z]:=hA.l;refine ce (fun _=>?_) (fun _=>bP ⟨rfl,rfl⟩);refine⟨_,rfl,a,dx,C,f3,_,UE,1,[Sm],_,rfl,ho,rfl,T.cl,M3,F3,ME,B3,a,l,ts,k,me,z,rfl,hR,S'.hd,rfl,_,rfl,bi (b_ fun h=>?_) ⟨rfl,rfl⟩⟩;have h':=V.str.inj h;rw[E9]at h';exact pj hG.1 (by simp) h'
end
def kr{X:Cx}{K:ZF}(h:X.K=K):GW X (Es K):=by subst h;exact aJ
def bH{α:Type}{x:α}{r:List α}:oz (x::r) 0=some x:=bf (j:=0) (xs:=x::r) rfl
def cM{α:Type}{x y:α}{r:List α}:oz (x::y::r) 1=some y:=bf (j:=1) (xs:=x::y::r) rfl
def jO{α:Type}{x y z:α}{r:List α}:oz (x::y::z::r) 2=some z:=bf (j:=2) (xs:=x::y::z::r) rfl
def Hm{α:Type}{x y z u:α}{r:List α}:oz (x::y::z::u::r) 3=some u:=bf (j:=3) (xs:=x::y::z::u::r) rfl
def eu{α β:Type}{R:α->β->Prop}{x:α}{y:β}(h:R x y):∀{xs:List α}{ys:List β},Paired R xs ys->Paired R (xs++[x]) (ys++[y])
 |_,_,.nil=>.cons h .nil
 |_,_,.cons a b=>.cons a (eu h b)
def bD{α β:Type}{R R':α->β->Prop}(f:∀x y,R x y->R' x y):∀{xs:List α}{ys:List β},Paired R xs ys->Paired R' xs ys
 |_,_,.nil=>.nil
 |_,_,.cons a b=>.cons (f _ _ a) (bD f b)
def dB{α β:Type}{R:α->β->Prop}:∀{xs:List α}{ys:List β},Paired R xs ys->∀{i:Nat}{x:α},xs[i]?=some x->∃y,ys[i]?=some y/\R x y
 |_,_,.cons h t,0,x,e=>by
  simp at e;exact⟨_,rfl,e▸h⟩
 |_,_,.cons h t,i+1,x,e=>by
  obtain⟨y,a,b⟩:=dB t (i:=i) (x:=x) (by simpa using e);exact⟨y,by simpa using a,b⟩
section
variable{H:Hp}
def vU{l:Ul}{xs ys:Uv}(e:H l=some (.lst xs)):OZ H (aM H l (.lst ys)):=EF e
def Q3.kt{H H':Hp}(k:OZ H H'):∀{b:Bd}{v:V},Q3 H b v->Q3 H' b v
 |.leaf _ _,_,⟨p,q,us,u,a,b,c,d,e⟩=>⟨p,q,us,u,a,k _ _ b,k _ _ c,bD (fun _ _ h=>Qg.kt k h) d,e.kt k⟩
 |.ite _ _ _ _,_,⟨p,u,x,y,a,b,⟨t,c,c'⟩,d,e⟩=>⟨p,u,x,y,a,k _ _ b,⟨t,c,k _ _ c'⟩,Q3.kt k d,Q3.kt k e⟩
def dI(t:Bool)(z:Str):Us:=if t then [Ta,z]else [z]
def BZ:Bd->Us
 |.leaf s e=>bZ s++gC e
 |.ite t z y n=>(Ub:Str)::(dI t z++(dk y++(TD:Str)::dk n))
def y2(b:Bd):dk b=("{":Str)::(BZ b++[("}":Str)]):=by
 cases b with
 |leaf s e=>simp[dk,BZ]
 |ite t z y n=>simp[dk,BZ,dI]
inductive pC(C:Ul)(vs:Uv)(H:Hp)(Q:VK)(Z3:XK):Prop
 |mk(a l ts k me t z:_):vs=[.ref a]->O9 C H a l ts k me->At ts k (dI t z)->OY z->(∀v H',O9 C H' a l ts (k+(dI t z).length) me->OS a H H'->P9 H' t z v->Q v H')->pC C vs H Q Z3
inductive ku(C:Ul)(m:Nat)(vs:Uv)(H:Hp)(Q:VK)(Z3:XK):Prop
 |mk(a l ts k me b:_)(w c:Nat):vs=[.ref a,.int w,.int c]->c+m=3->w<=24->O9 C H a l ts k me->At ts k (dk b)->fA w m b->(∀v H',O9 C H' a l ts (k+(dk b).length) me->OS a H H'->Q3 H' b v->Q v H')->ku C m vs H Q Z3
inductive lS(C:Ul)(m:Nat)(vs:Uv)(H:Hp)(Q:VK):Prop
 |mk(a l ts k me t z y n:_)(w c:Nat):vs=[.ref a,.int w,.int c]->c+m=3->w<=24->O9 C H a l ts k me->At ts k (BZ (.ite t z y n))->OY z->fA w m y->fA w m n->(∀v H',O9 C H' a l ts (k+(BZ (.ite t z y n)).length) me->OS a H H'->Q3 H' (.ite t z y n) v->Q v H')->lS C m vs H Q
def jP(C:Ul):Nat->Sp
 |0=>jN
 |m+1=>fun vs H Q _=>lS C m vs H Q
def jQ:∀a b:List Gs,bZ (a++b)=bZ a++bZ b
 |[],_=>rfl
 |g::r,b=>by
  show("set":Str)::(i4 g++bZ (r++b))=(("set":Str)::(i4 g++bZ r))++bZ b;rw[jQ r b];simp
variable{v:V}
def Qg.at{g:Gs}(h:Qg H g v):∃p r,v=.ref p/\H p=some (.tup (.str (xc g)::r)):=by
 cases g with
 |cell a e=>obtain⟨p,u,t,a,b,_⟩:=h;exact⟨p,_,a,b⟩
 |nm z e=>obtain⟨p,t,a,b,_⟩:=h;exact⟨p,_,a,b⟩
def y3(g:Gs):(!decide (V.str (xc g)=V.str "cell"))=!g.isCell:=by
 cases g with
 |cell a e=>rw[a_ (show V.str (xc (.cell a e))=V.str "cell" from rfl)];rfl
 |nm z e=>rw[b_ (fun h=>absurd (V.str.inj h) (by show("name":Str)≠"cell";decide +kernel))];rfl
variable{e:En}
def xf(h:ph e):Be e≠"set":=by
 have:=pB h;intro hs;rw[hs]at this;revert this;decide +kernel
variable{P:Uo}{w:Up}{K:ZF}{mg:Str->Option Uk}{base:Heap}{C fi aS aE aF aO:Ul}{t1 t2 t3 t4 t5 tM:Tok}
def QL:az [Sv,Sr,"sets",Tv] [Sv,Sr] (ak gZ):=cv zk
def B0:([TZ]:Us).Nodup:=by decide +kernel
variable{n:Nat}{fd:Ur}{f:Ul}
def y4(F:O0 K "read_leaf" "read_leaf" gZ f fd)(T:sJ P w K mg base C)(Z:uh K mg aS aE aF t1 t2 t3 t4)(B:Bl mg)(SR:Fn P w K mg base "read_set" n [Sv,Sr,Tv] (ui C))(EN:Fn P w K mg base "read_end" 3 [Sv] (lR C))(hn:3<=n):OQ P w K mg base bQ (n+1) f fd [Sv,Sr] (pA C):=by
 have ZZ:=QL
 walk_at "o"
 ·obtain⟨a,l,ts,k,me,s,e,w,rfl,hw,hR,hA,⟨h4,hG,hU,hE⟩,q⟩:=h;have ME:OU 1 _:=hr.mono zo;have Vq:OU 3 _:=hr.mono zo;have sz:(1000:Nat)<=sizeLine:=by decide
  refine⟨_,ac (bL (i:=2) QL.nd (aP ab))
   (ac (fW g_ (PW.pt (ck (aq eR (aI aL (by rfl) B.len KW (aa (pv 2) ab)) (bE (v:=.int 4) rfl Z.ms ⟨_,rfl⟩)) (bM (aq aX (bh (pv 0)) ai))))
    (ac (aQ (bh (pv 0)))
    (ac (bL (i:=3) QL.nd (aI (fq rfl) (by rfl) B.all eG (aa (fk (N':=[TZ]) (ix:=[none]) (sc0:=ak gZ) (N:=[Sv,Sr,"sets",Tv]) rfl zk (cm (pv 2)) (fun C' cl s H fp=>cq (i:=0) B0) (fun _ _ _ _ _=>dQ) (fun C' cl s H fp=>cb iP (aB (kr (K:=K) rfl) (pv 0) af) ai (sR _))) ab)))
    (ag (aQ (ci KU KS KR bv (pv 2) (aa (ax SR hr rfl (aa (pv 0) (aa (pv 1) (aa (pv 3) ab)))) ab)))))))
   (ag (aw (aK (aa ai (aa (aY bC (by rfl) B.tuple bG (aa (pv 2) ab)) (aa (ax EN Vq rfl (aa (pv 0) ab)) ab))))))),?_⟩
  obtain⟨f3,UE,M3,F3,B3⟩:=T.look;obtain⟨f4,XJ,M4,F4,B4⟩:=T.take;obtain⟨dx,ho⟩:=hR.ob;refine⟨OT,fun ln nn=>?_⟩;generalize zz:aM H ln _=H1;have⟨s1,e1⟩:=nw nn zz;clear zz;have WN:ln≠a:=fun z=>by rw[z,ho]at nn;cases nn
  have lnl:l≠ln:=ao hR.tk nn;refine⟨fun m σ H'=>∃(i:Nat)(v3:Option V)(us:Uv),i<=s.length/\m=s.length-i/\σ=[some (.ref a),some (.int (w:Nat)),some (.ref ln),v3]/\O9 C H' a l ts (k+(bZ (s.take i)).length) me/\OS a H H'/\H' ln=some (.lst us)/\us.length=i/\Paired (fun v g=>Qg H' g v) us (s.take i),⟨_,0,none,[],Lh _,rfl,rfl,hR.same s1,bU s1,e1,rfl,.nil⟩,?_⟩;rintro m σ H2 ⟨i,v3,us,hi,rfl,rfl,r2,b2,e2,lu,ML⟩;obtain⟨Va,UD⟩:=r2.ob;refine⟨_,rfl,ln,_,rfl,.inl (OO.of e2),_,_,rfl,rfl,_,rfl,?_⟩;by_cases MP:i<s.length
  ·have hg:s[i]?=some s[i]:=KF MP;generalize hgg:s[i]=g at*;have hgm:g∈s:=KQ hg;have Wv:s.take (i+1)=s.take i++[g]:=by rw[Lj,hg];rfl
   have esp:bZ s=bZ (s.take i)++(("set":Str)::(i4 g++bZ (s.drop (i+1)))):=by
    have:s=s.take i++(g::s.drop (i+1)):=by
     have h':=(Ly i s).symm;rw[Lq MP,hgg]at h';exact h'
    conv=>lhs;rw[this,jQ]
    rfl
   have hAs:At ts (k+(bZ (s.take i)).length) (("set":Str)::(i4 g++bZ (s.drop (i+1)))):=by
    have:=hA.l;rw[esp]at this;exact this.r
   refine bF (a_ (by rw[lu];lia)) ?_;refine⟨_,rfl,a,Va,C,f3,_,UE,1,[Sm],_,rfl,UD,rfl,T.cl,M3,F3,ME,B3,a,l,ts,_,me,"set",rfl,r2,hAs.hd,rfl,_,rfl,bF (a_ rfl) ?_⟩;refine⟨fun σ' H'=>∃(v3:Option V)(us:Uv),σ'=[some (.ref a),some (.int (w:Nat)),some (.ref ln),v3]/\O9 C H' a l ts (k+(bZ (s.take (i+1))).length) me/\OS a H H'/\H' ln=some (.lst us)/\us.length=i+1/\Paired (fun v g=>Qg H' g v) us (s.take (i+1)),fun σ' H'⟨v3,us,a1,a2,a3,a4,a5,a6⟩=>⟨s.length-(i+1),zo,i+1,v3,us,MP,rfl,a1,a2,a3,a4,a5,a6⟩,?_⟩;refine⟨_,rfl,a,Va,C,f4,_,XJ,1,[Sm],_,rfl,UD,rfl,T.cl,M4,F4,ME,B4,a,l,ts,_,me,"set",rfl,r2,hAs.hd,fun H3 r3 b3=>?_⟩;have k23:=b3.kt UD;have e3:=b3 _ _ e2 WN;have hus3:=bD (fun _ _ h=>Qg.kt k23 h) ML;refine⟨_,rfl,ln,rfl,⟨_,OO.of e3⟩,?_⟩;refine eJ (K:=K) (a:=ln) (xs:=us) (fun j ys H'=>H'=H3/\ys=(((s.take i).take j).map fun g=>!g.isCell).map V.bl) ⟨rfl,rfl⟩ (fun j ys H' hj⟨a1,a2⟩=>by
     subst a1 a2;refine⟨OO.of e3,?_⟩;rw[Ky,Ky,KG,KG];lia) ?_ ?_
   ·rintro j u ys H' hu ⟨rfl,rfl⟩;obtain⟨y,hy,hv⟩:=dB hus3 hu;obtain⟨p,r,rfl,hp⟩:=hv.at;refine⟨trivial,eB ?_⟩;refine⟨_,rfl,p,_,_,_,rfl,rfl,ON.of hp,bH,rfl,?_⟩;rw[y3];refine Nx.mk (Kx.mp hu).1 ⟨rfl,?_⟩;rw[Lj (l:=s.take i),hy,KJ,KJ];rfl
   rintro ys H' ⟨rfl,rfl⟩ lq X1;have eta:(s.take i).take us.length=s.take i:=LB (by rw[KG];lia);rw[eta];have s4:=aj (o:=.lst (((s.take i).map fun g=>!g.isCell).map V.bl)) X1;refine⟨lq,_,rfl,OO.of ae,?_⟩;have e4:=s4 _ _ e3;have r4:=r3.same s4;have hus4:=bD (fun _ _ h=>Qg.kt (av s4) h) hus3;generalize aM H' lq (.lst (((s.take i).map fun g=>!g.isCell).map V.bl))=H4 at*;have hcf:g.isCell=true->((s.take i).map fun g=>!g.isCell).all id=true:=by
    intro hc;rw[MA,Li];intro x hx;obtain⟨jj,hj⟩:=List.getElem?_of_mem hx;have Ws:jj<(s.take i).length:=(Kx.mp hj).1;rw[KG]at Ws;rw[Sh zo]at hj;show(!x.isCell)=true;cases hxc:x.isCell with
    |false=>rfl
    |true=>
     have:=hU jj i x g hj hg hxc hc;lia
   have W3:OS a H2 H4:=b3.same s4;refine⟨_,rfl,.inl ⟨rfl,_,OO.of e4⟩,_,rfl,_,rfl,_,rfl,a,l,ts,k+(bZ (s.take i)).length+1,me,g,w,_,rfl,hw,hcf,r4,hAs.tl.l,hG g hgm,fun v5 H5 r5 b5 v5'=>?_⟩;obtain⟨Wx,Vd⟩:=r4.ob;have e5:=b5 _ _ e4 WN;have k45:=b5.kt Vd;refine⟨ln,us,_,rfl,rfl,e5,zo,?_⟩;have k6:=vU (ys:=us++[v5]) e5;obtain⟨W0,Vr⟩:=r5.ob;have MD:k+(bZ (s.take (i+1))).length=k+(bZ (s.take i)).length+1+(i4 g).length:=by
    rw[Wv,jQ];show k+(bZ (s.take i)++(("set":Str)::(i4 g++[]))).length=_;simp;lia
   refine⟨_,us++[v5],rfl,?_,?_,ae,by simp[lu],?_⟩
   ·rw[MD];refine⟨⟨W0,by rw[au (Pi WN)];exact Vr⟩,by rw[au lnl];exact r5.tk,r5.le⟩
   ·intro b o eb nb;rw[au (ao eb nn)];exact b5 _ _ (W3 _ _ (b2 _ _ eb nb) nb) nb
   ·rw[Wv];exact eu (R:=fun v g=>Qg (aM H5 ln (.lst (us++[v5]))) g v) (Qg.kt k6 v5') (bD (R:=fun v g=>Qg H4 g v) (fun _ _ h=>Qg.kt k6 (Qg.kt k45 h)) hus4)
  ·have Xd:i=s.length:=by lia
   subst Xd;rw[K7]at ML r2;have YV:At ts (k+(bZ s).length) (gC e):=hA.r;have F':lR C [.ref a] H2 (fun Y_ H3=>Q Y_ H3) E0->True:=fun _=>trivial;have cont:∀H3,H3=H2->(∃p ys,[V.ref ln]=[.ref p]/\((OO K H3 p ys/\∀t,H3 t=none->lR C [.ref a] (aM H3 t (.tup ys)) (fun v4 H4=>3<=sizeLine/\∀p,H4 p=none->Q (.ref p) (aM H4 p (.tup [.str "leaf",.ref t,v4]))) E0)\/(ON K H3 p ys/\False))):=by
    rintro H3 rfl;refine⟨ln,us,rfl,.inl ⟨OO.of e2,fun t nt=>?_⟩⟩;generalize zz:aM H3 t _=H4;have s3:=(nw nt zz).1;have e3:H4 t=some (.tup us):=(nw nt zz).2;clear zz;have U9:=s3 _ _ UD;refine⟨a,l,ts,_,me,e,rfl,r2.same s3,YV,hE,fun v5 H5 r5 b5 v5'=>⟨OT,fun p np=>?_⟩⟩;have s6:=aj (o:=.tup [.str "leaf",.ref t,v5]) np;have k45:=b5.kt U9;have MD:k+(bZ s++gC e).length=k+(bZ s).length+(gC e).length:=by
     rw[Kz];lia
    refine q _ _ (by rw[MD];exact r5.same s6) (((b2.same s3).trans b5).same s6) ⟨p,t,us,v5,rfl,ae,s6 _ _ (k45 _ _ e3),bD (fun _ _ h=>Qg.kt (av s6) (Qg.kt k45 (Qg.kt (av s3) h))) ML,v5'.kt (av s6)⟩
   refine ce (fun _=>?_) (fun _=>bP ?_)
   ·refine⟨_,rfl,a,Va,C,f3,_,UE,1,[Sm],_,rfl,UD,rfl,T.cl,M3,F3,ME,B3,a,l,ts,_,me,Be e,rfl,r2,yZ YV,rfl,_,rfl,bi (b_ fun h=>xf hE (V.str.inj h)) ?_⟩;obtain⟨p,ys,h1,h2⟩:=cont H2 rfl;rcases h2 with⟨h2,h3⟩|⟨_,h3⟩
    ·exact⟨_,rfl,p,ys,h1,.inl ⟨h2,fun t nt=>⟨_,rfl,h3 t nt⟩⟩⟩
    ·exact h3.elim
   ·obtain⟨p,ys,h1,h2⟩:=cont H2 rfl;rcases h2 with⟨h2,h3⟩|⟨_,h3⟩
    ·exact⟨_,rfl,p,ys,h1,.inl ⟨h2,fun t nt=>⟨_,rfl,h3 t nt⟩⟩⟩
    ·exact h3.elim
def B5:az [Sv] [Sv] (ak jE):=cv zk
def y6(F:O0 K "read_test" "read_test" jE f fd)(T:sJ P w K mg base C):OQ P w K mg base bQ 3 f fd [Sv] (pC C):=by
 have ZZ:=B5
 walk_at "o"
 ·obtain⟨a,l,ts,k,me,t,z,rfl,hR,hA,hN,q⟩:=h;refine⟨_,ac (aT (aq aX (bh (pv 0)) ai) (ag (aw (aK (aa (bh (pv 0)) (aa (bh (pv 0)) ab))))) aG)
   (ag (aw (aK (aa ai (aa (bh (pv 0)) ab))))),?_⟩
  obtain⟨f2,UF,M2,F2,B2⟩:=T.nname;obtain⟨f3,UE,M3,F3,B3⟩:=T.look;obtain⟨f4,XJ,M4,F4,B4⟩:=T.take;obtain⟨dx,ho⟩:=hR.ob;cases t with
  |true=>
   have S':At ts k [(Ta:Str),z]:=hA;refine⟨_,rfl,a,dx,C,f3,_,UE,1,[Sm],_,rfl,ho,rfl,T.cl,M3,F3,hr.m,B3,a,l,ts,k,me,Ta,rfl,hR,S'.hd,rfl,_,rfl,bF (a_ rfl) ?_⟩;refine⟨_,rfl,a,dx,C,f4,_,XJ,1,[Sm],_,rfl,ho,rfl,T.cl,M4,F4,hr.m,B4,a,l,ts,k,me,Ta,rfl,hR,S'.hd,fun H1 r1 b1=>?_⟩;obtain⟨Vg,UL⟩:=r1.ob;refine⟨_,rfl,a,Vg,C,f2,_,UF,2,[Sm],_,rfl,UL,rfl,T.cl,M2,F2,hr,B2,a,l,ts,k+1,me,z,rfl,r1,S'.tl.hd,hN,fun H2 r2 b2=>⟨OT,fun p np=>?_⟩⟩;have s3:=aj (o:=.tup [.str Ta,.str z]) np;exact q _ _ (r2.same s3) ((b1.trans b2).same s3) ⟨p,rfl,ae⟩
  |false=>
   have S':At ts k [z]:=hA;have MM:z≠Ta:=fun e=>by
    have:=hN.1;rw[e]at this;exact this zk
   refine⟨_,rfl,a,dx,C,f3,_,UE,1,[Sm],_,rfl,ho,rfl,T.cl,M3,F3,hr.m,B3,a,l,ts,k,me,z,rfl,hR,S'.hd,rfl,_,rfl,bi (b_ fun h=>MM (V.str.inj h)) ?_⟩;refine⟨_,rfl,a,dx,C,f2,_,UF,2,[Sm],_,rfl,ho,rfl,T.cl,M2,F2,hr,B2,a,l,ts,k,me,z,rfl,hR,S'.hd,hN,fun H2 r2 b2=>⟨OT,fun p np=>?_⟩⟩;have s3:=aj (o:=.tup [.str Ub,.str z]) np;exact q _ _ (r2.same s3) (b2.same s3) ⟨p,rfl,ae⟩
def PX:az [Sv,Sr,Tl,Tn,"yes"] [Sv,Sr,Tl] (ak gJ):=cv zk
def P9.kt{H H':Hp}(k:OZ H H'){t:Bool}{z:Str}(h:P9 H t z v):P9 H' t z v:=let⟨p,a,b⟩:=h;⟨p,a,k _ _ b⟩
variable{m:Nat}
def iI(F:O0 K "read_choice" "read_choice" gJ f fd)(T:sJ P w K mg base C)(TE':Fn P w K mg base "read_test" 3 [Sv] (pC C))(BD:Fn P w K mg base "read_body" n [Sv,Sr,Tl] (ku C m))(hn:3<=n):OQ P w K mg base bQ (n+1) f fd [Sv,Sr,Tl] (jP C (m+1)):=by
 have ZZ:=PX
 walk_at "o"
 ·obtain⟨a,l,ts,k,me,t,z,y,n',w,c,rfl,hc,hw,hR,hA,hN,hY,hM,q⟩:=h;have MF:OU 2 _:=hr.mono zo;have Vq:OU 3 _:=hr.mono zo;refine⟨_,ac (aQ (be (pv 0) (aa (aK (aa ai ab)) ab)))
   (ac (bL (i:=3) PX.nd (ax TE' Vq rfl (aa (pv 0) ab)))
   (ac (bL (i:=4) PX.nd (ax BD hr rfl (aa (pv 0) (aa (pv 1) (aa (pv 2) ab)))))
   (ac (aQ (be (pv 0) (aa (aK (aa ai ab)) ab)))
   (ag (aw (aK (aa ai (aa (pv 3) (aa (pv 4) (aa (ax BD hr rfl (aa (pv 0) (aa (pv 1) (aa (pv 2) ab)))) ab)))))))))),?_⟩
  obtain⟨f1,MG,M1,F1,B1⟩:=T.need;obtain⟨dx,ho⟩:=hR.ob;have S':At ts k ((Ub:Str)::(dI t z++(dk y++(TD:Str)::dk n'))):=hA;have Vu:=S'.tl.r;have hA3:=Vu.r;refine⟨_,rfl,a,dx,C,f1,_,MG,2,[Sm,SX],_,rfl,ho,rfl,T.cl,M1,F1,MF,B1,OT,fun p1 n1=>?_⟩;have s1:=aj (o:=.tup [.str Ub]) n1;refine⟨a,l,ts,k,me,Ub,p1,[Ub],rfl,hR.same s1,S'.hd,.inr (ON.of ae),KB,fun H1 r1 b1=>?_⟩;have Xi:OS a H H1:=(bU s1).trans b1;refine⟨_,rfl,a,l,ts,k+1,me,t,z,rfl,r1,S'.tl.l,hN,fun u H2 r2 b2 v2=>?_⟩;obtain⟨Va,UD⟩:=r2.ob;refine⟨_,rfl,_,rfl,_,rfl,a,l,ts,k+1+(dI t z).length,me,y,w,c,rfl,hc,hw,r2,Vu.l,hY,fun x H3 r3 b3 v3=>?_⟩;obtain⟨Wl,U9⟩:=r3.ob;refine⟨_,rfl,a,Wl,C,f1,_,MG,2,[Sm,SX],_,rfl,U9,rfl,T.cl,M1,F1,MF,B1,OT,fun p4 n4=>?_⟩;have s4:=aj (o:=.tup [.str TD]) n4;refine⟨a,l,ts,k+1+(dI t z).length+(dk y).length,me,TD,p4,[TD],rfl,r3.same s4,hA3.hd,.inr (ON.of ae),KB,fun H5 r5 b5=>?_⟩;have b35:OS a H3 H5:=(bU s4).trans b5;obtain⟨W0,Vr⟩:=r5.ob;refine⟨_,rfl,_,rfl,_,rfl,_,rfl,_,rfl,a,l,ts,k+1+(dI t z).length+(dk y).length+1,me,n',w,c,rfl,hc,hw,r5,hA3.tl,hM,fun x2 H6 r6 b6 v6=>⟨OT,fun p np=>?_⟩⟩;have s7:=aj (o:=.tup [.str Ub,u,x,x2]) np;have Xz:=av s7;have k56:=b6.kt Vr;have k35:=b35.kt U9;have MD:k+(BZ (.ite t z y n')).length=k+1+(dI t z).length+(dk y).length+1+(dk n').length:=by
   show k+((Ub:Str)::(dI t z++(dk y++(TD:Str)::dk n'))).length=_;simp;lia
  refine q _ _ (by rw[MD];exact r6.same s7) (((((Xi.trans b2).trans b3).trans b35).trans b6).same s7) ⟨p,u,x,x2,rfl,ae,?_,?_,?_⟩
  ·exact((((v2.kt (b3.kt UD)).kt k35).kt k56).kt Xz)
  ·exact((v3.kt k35).kt k56).kt Xz
  ·exact v6.kt Xz
def Qq:az [Sv,Sr,Tl,Ui] [Sv,Sr,Tl] (ak jD):=cv zk
def vV{w m:Nat}{s:List Gs}(h:fA w m (.leaf s e)):fA w 0 (.leaf s e):=by cases m<;>exact h
inductive y8(a:Ul)(w:Nat)(c:Ul)(C:Ul)(l:Ul)(ts:Us)(k:Nat)(b:Bd)(me:Bool)(H:Hp)(σ:St)(H':Hp):Prop
 |mk(u:_):σ=[some (.ref a),some (.int (w:Nat)),some (.int (c:Nat)),some u]->O9 C H' a l ts (k+1+(BZ b).length) me->OS a H H'->Q3 H' b u->y8 a w c C l ts k b me H σ H'
def i6(F:O0 K "read_body" "read_body" jD f fd)(T:sJ P w K mg base C)(Z:uh K mg aS aE aF t1 t2 t3 t4)(CH:Fn P w K mg base "read_choice" n [Sv,Sr,Tl] (jP C m))(LF:Fn P w K mg base "read_leaf" n [Sv,Sr] (pA C))(hn:3<=n):OQ P w K mg base bQ (n+1) f fd [Sv,Sr,Tl] (ku C m):=by
 have ZZ:=Qq
 walk_at "o"
 ·obtain⟨a,l,ts,k,me,b,w,c,rfl,hc,hw,hR,hA,hB,q⟩:=h;have ME:OU 1 _:=hr.mono zo;have MF:OU 2 _:=hr.mono zo;refine⟨_,ac (aQ (be (pv 0) (aa (aK (aa ai ab)) ab)))
   (bN (y8 a w c C l ts k b me H) (aT (dh (fun _ H'=>(O9 C H' a l ts (k+1) me/\OS a H H')/\∃t z y n,b=.ite t z y n) (fun _ H'=>(O9 C H' a l ts (k+1) me/\OS a H H')/\∃s e,b=.leaf s e) (PW.pt (ck (aq eR (pv 2) (bE (v:=.int 3) rfl Z.mc ⟨_,rfl⟩)) (bM (aq aX (bh (pv 0)) ai)))))
     (ag (bL (i:=3) Qq.nd (ax CH hr rfl (aa (pv 0) (aa (pv 1) (aa (aH bX (pv 2) af) ab))))))
     (ag (bL (i:=3) Qq.nd (ax LF hr rfl (aa (pv 0) (aa (pv 1) ab))))))
   (ac (aQ (be (pv 0) (aa (aK (aa ai ab)) ab)))
   (ag (aw (pv 3))))),?_⟩
  obtain⟨f1,MG,M1,F1,B1⟩:=T.need;obtain⟨f3,UE,M3,F3,B3⟩:=T.look;obtain⟨dx,ho⟩:=hR.ob;rw[y2]at hA;have Vu:=hA.tl;refine⟨_,rfl,a,dx,C,f1,_,MG,2,[Sm,SX],_,rfl,ho,rfl,T.cl,M1,F1,MF,B1,OT,fun p1 n1=>?_⟩;have s1:=aj (o:=.tup [.str "{"]) n1;refine⟨a,l,ts,k,me,"{",p1,["{"],rfl,hR.same s1,hA.hd,.inr (ON.of ae),KB,fun H1 r1 b1=>?_⟩;have Xi:OS a H H1:=(bU s1).trans b1;refine⟨?_,?_,?_,?_⟩
  ·rintro σ H2 ⟨u,rfl,r2,b2,v2⟩;obtain⟨Va,UD⟩:=r2.ob;refine⟨_,rfl,a,Va,C,f1,_,MG,2,[Sm,SX],_,rfl,UD,rfl,T.cl,M1,F1,MF,B1,OT,fun p3 n3=>?_⟩;have s3:=aj (o:=.tup [.str "}"]) n3;refine⟨a,l,ts,k+1+(BZ b).length,me,"}",p3,["}"],rfl,r2.same s3,Vu.r.hd,.inr (ON.of ae),KB,fun H4 r4 b4=>?_⟩;have W3:OS a H2 H4:=(bU s3).trans b4;have MD:k+(dk b).length=k+1+(BZ b).length+1:=by
    rw[y2];simp;lia
   exact⟨_,rfl,q _ _ (by rw[MD];exact r4) (b2.trans W3) (v2.kt (W3.kt UD))⟩
  ·rintro H2 ⟨⟨r2,b2⟩,t,z,y,n',rfl⟩;cases m with
   |zero=>exact absurd hB (by simp[fA])
   |succ m=>
    obtain⟨h1,h2,h3⟩:=hB;refine⟨_,rfl,_,rfl,_,rfl,_,_,rfl,rfl,a,l,ts,k+1,me,t,z,y,n',w,c+1,rfl,zo,hw,r2,Vu.l,h1,h2,h3,fun v3 H3 r3 b3 Y_=>?_⟩;exact⟨v3,rfl,r3,b2.trans b3,Y_⟩
  ·rintro H2 ⟨⟨r2,b2⟩,ss,e,rfl⟩;refine⟨_,rfl,_,rfl,a,l,ts,k+1,me,ss,e,w,rfl,hw,r2,Vu.l,vV hB,fun v3 H3 r3 b3 Y_=>?_⟩;exact⟨v3,rfl,r3,b2.trans b3,Y_⟩
  ·obtain⟨Vg,UL⟩:=r1.ob;refine⟨_,rfl,_,_,rfl,rfl,_,rfl,?_⟩;cases b with
   |ite t z y n'=>
    have hm:m≠0:=by
     rintro rfl;simp[fA]at hB
    have hA3:At ts (k+1) ((Ub:Str)::(dI t z++(dk y++(TD:Str)::dk n'))):=Vu.l;refine bF (a_ zo) ⟨_,rfl,a,Vg,C,f3,_,UE,1,[Sm],_,rfl,UL,rfl,T.cl,M3,F3,ME,B3,a,l,ts,k+1,me,Ub,rfl,r1,hA3.hd,rfl,_,rfl,bF (a_ rfl) ⟨⟨r1,Xi⟩,t,z,y,n',rfl⟩⟩
   |leaf ss e=>
    refine ce (fun _=>?_) (fun _=>bP ⟨⟨r1,Xi⟩,ss,e,rfl⟩);have hAl:At ts (k+1) (bZ ss++gC e):=Vu.l;have htok:∃tk,(tz ts)[k+1]?=some tk/\tk≠Ub:=by
     cases ss with
     |nil=>
      have YV:At ts (k+1) (gC e):=hAl;have hE:ph e:=(vV hB).2.2.2;refine⟨_,yZ YV,fun h=>?_⟩;have:=pB hE;rw[h]at this;revert this;decide +kernel
     |cons g r=>
      have YV:At ts (k+1) ((("set":Str)::(i4 g++bZ r))++gC e):=hAl;exact⟨_,YV.hd,zk⟩
    obtain⟨tk,Wg,MM⟩:=htok;refine⟨_,rfl,a,Vg,C,f3,_,UE,1,[Sm],_,rfl,UL,rfl,T.cl,M3,F3,ME,B3,a,l,ts,k+1,me,tk,rfl,r1,Wg,rfl,_,rfl,bi (b_ fun h=>MM (V.str.inj h)) ⟨⟨r1,Xi⟩,ss,e,rfl⟩⟩
end
def Pc.kt(k:OZ H H')(h:Pc H u x):Pc H' u x:=let⟨p,a,b⟩:=h;⟨p,a,k _ _ b⟩
def ul(ts:Us)(k:Nat)(fs:Uu):Prop:=∀i(h:i<fs.length),(tz ts)[k+3*i]?=some fs[i].1/\OY fs[i].1/\(tz ts)[k+3*i+1]?=some fs[i].2/\fs[i].2∈db/\(i+1<fs.length->(tz ts)[k+3*i+2]?=some ",")
inductive lT(C:Ul)(vs:Uv)(H:Hp)(Q:VK)(Z3:XK):Prop
 |mk(a l ts k me fs:_):vs=[.ref a]->O9 C H a l ts k me->(tz ts)[k]?=some "("->ul ts (k+1) fs->(tz ts)[k+1+(3*fs.length-1)]?=some ")"->fs.length<=3->(∀p us H',O9 C H' a l ts (k+2+(3*fs.length-1)) me->OS a H H'->H p=none->H' p=some (.tup us)->Paired (Pc H') us fs->Q (.ref p) H')->lT C vs H Q Z3
structure FI(C:Ul)(H:Hp)(a l:Ul)(ts:Us)(k:Nat)(me:Bool)(fs:Uu)(j:Nat)(lf:Ul)(H':Hp):Prop where
 rd:O9 C H' a l ts (k+(3*j-1)) me
 bt:OS a H H'
 nf:H lf=none
 la:lf≠a
 ll:lf≠l
 ls:∃us,H' lf=some (.lst us)/\us.length=j/\Paired (Pc H') us (fs.take j)
section
def FI.more(I:FI C H a l ts k me fs j lf H3)(hj:j<fs.length)(hk:OZ H3 H4)(e4:H4 lf=some (.lst us))(hu:us.length=j)(hp:Paired (Pc H3) us (fs.take j))
  (r4:O9 C H4 a l ts (k+(3*(j+1)-1)) me) (b4:OS a H3 H4) (ep:H4 p=some (.tup [.str fs[j].1,.str fs[j].2])):FI C H a l ts k me fs (j+1) lf (aM H4 lf (.lst (us++[.ref p]))):=by
 have k2:=vU (ys:=us++[V.ref p]) e4;refine⟨⟨?_,?_,r4.le⟩,?_,I.nf,I.la,I.ll,us++[.ref p],ae,by simp[hu],?_⟩
 ·obtain⟨dx,ho⟩:=r4.ob;exact⟨dx,by rw[au I.la.symm];exact ho⟩
 ·rw[au I.ll.symm];exact r4.tk
 ·intro b o e nb;by_cases h:b=lf
  ·rw[h,I.nf]at e;cases e
  ·rw[au h];exact b4 _ _ (I.bt _ _ e nb) nb
 ·rw[Lj,KF hj];exact eu ⟨p,rfl,k2 _ _ ep⟩ (bD (fun _ _ h=>(h.kt hk).kt k2) hp)
def QF:az [Sv,Tp] [Sv] (ak gI):=cv zk
def xg(F:O0 K "read_fields" "read_fields" gI f fd)(T:sJ P w K mg base C)(Z:uh K mg aS aE aF t1 t2 t3 t4)(B:Bl mg)(FL:Fn P w K mg base "read_field" 3 [Sv] (pz C)):OQ P w K mg base bQ 4 f fd [Sv] (lT C):=by
 have ZZ:=QF
 walk_at "o"
 ·obtain⟨a,l,ts,k,me,fs,rfl,hR,h0,hf,he,h3,q⟩:=h;have sz:(1000:Nat)<=sizeLine:=by decide
  refine⟨_,ac (aQ (be (pv 0) (aa (aK (aa ai ab)) ab)))
   (ac (bL (i:=1) QF.nd (aP ab))
   (bN (fun σ H'=>∃j lf,j=min 1 fs.length/\σ=[some (.ref a),some (.ref lf)]/\FI C H a l ts (k+1) me fs j lf H') (aT (aq iP (bh (pv 0)) ai) (ag (aQ (ci KU KS KR bv (pv 1) (aa (ax FL hr rfl (aa (pv 0) ab)) ab)))) aG)
   (bN (fun σ H'=>∃lf,σ=[some (.ref a),some (.ref lf)]/\FI C H a l ts (k+1) me fs fs.length lf H') (fW g_ (PW.pt (ck (qN eR eR af (aI aL (by rfl) B.len KW (aa (pv 1) ab)) (bE (v:=.int 3) rfl Z.mf ⟨_,rfl⟩)) (bM (aq aX (bh (pv 0)) ai))))
    (ac (aQ (bh (pv 0))) (ag (aQ (ci KU KS KR bv (pv 1) (aa (ax FL hr rfl (aa (pv 0) ab)) ab))))))
   (ac (aQ (be (pv 0) (aa (aK (aa ai ab)) ab)))
   (ag (aw (aY bC (by rfl) B.tuple bG (aa (pv 1) ab)))))))),?_⟩
  obtain⟨f1,MG,M1,F1,B1⟩:=T.need;obtain⟨f2,UF,M2,F2,B2⟩:=T.take;obtain⟨f3,UE,M3,F3,B3⟩:=T.look;obtain⟨dx,ho⟩:=hR.ob;refine⟨_,rfl,a,dx,C,f1,_,MG,2,[Sm,SX],_,rfl,ho,rfl,T.cl,M1,F1,hr.m,B1,OT,fun p1 n1=>?_⟩;have s1:=aj (o:=.tup [.str "("]) n1;refine⟨a,l,ts,k,me,"(",p1,["("],rfl,hR.same s1,h0,(.inr (ON.of ae)),by simp,fun H1 r1 b1=>?_⟩;have c1:OS a H H1:=(bU s1).trans b1;obtain⟨Vg,UL⟩:=r1.ob;refine⟨OT,fun lf nf=>?_⟩;have s2:=aj (o:=.lst []) nf;have e2:(aM H1 lf (.lst [])) lf=some (.lst []):=ae;have nH:H lf=none:=i5 c1 UL nf;have laN:lf≠a:=by
   rintro rfl;rw[nH]at ho;cases ho
  have llN:lf≠l:=fun z=>by
   have:=hR.tk;rw[<-z,nH]at this;cases this
  have I0:FI C H a l ts (k+1) me fs 0 lf (aM H1 lf (.lst [])):=⟨r1.same s2,c1.same s2,nH,laN,llN,[],e2,rfl,.nil⟩;generalize aM H1 lf (.lst ([]:Uv))=H2 at*;refine⟨?_,?_⟩
  ·rintro σ H3 ⟨j0,lf,hj0,rfl,I3⟩;refine⟨?_,?_⟩
   ·rintro σ H4 ⟨lf,rfl,I4⟩;obtain⟨us,e4,l4,p4⟩:=I4.ls;rw[K7]at p4;obtain⟨Wx,Vd⟩:=I4.rd.ob;refine⟨_,rfl,a,Wx,C,f1,_,MG,2,[Sm,SX],_,rfl,Vd,rfl,T.cl,M1,F1,hr.m,B1,OT,fun p2 n2=>?_⟩;have s4:=aj (o:=.tup [.str ")"]) n2;refine⟨a,l,ts,_,me,")",p2,[")"],rfl,I4.rd.same s4,he,(.inr (ON.of ae)),by simp,fun H5 r5 b5=>?_⟩;have e5:=b5 _ _ (s4 _ _ e4) I4.la;have k5:=(av s4).trans (b5.kt (s4 _ _ Vd));obtain⟨W0,Vr⟩:=r5.ob;have c5:OS a H H5:=(I4.bt.same s4).trans b5;refine⟨_,rfl,lf,us,rfl,.inl ⟨OO.of e5,fun p3 n3=>?_⟩⟩;have s6:=aj (o:=.tup us) n3;refine q p3 us _ ?_ (c5.same s6) (i5 c5 Vr n3) ae (bD (fun _ _ h=>(h.kt k5).kt (av s6)) p4);have:=r5.same s6;have ee:k+1+(3*fs.length-1)+1=k+2+(3*fs.length-1):=by lia
    rw[ee]at this;exact this
   ·refine⟨fun m σ H'=>∃j lf,m=fs.length-j/\j<=fs.length/\(0<j\/fs.length=0)/\σ=[some (.ref a),some (.ref lf)]/\FI C H a l ts (k+1) me fs j lf H',⟨_,j0,lf,rfl,zo,zo,rfl,I3⟩,?_⟩;rintro m σ H5 ⟨j,lf,rfl,hj,hj1,rfl,I5⟩;obtain⟨us,e5,l5,p5⟩:=I5.ls;obtain⟨W0,Vr⟩:=I5.rd.ob;have done:j=fs.length->∃lf',[some (V.ref a),some (V.ref lf)]=[some (V.ref a),some (.ref lf')]/\FI C H a l ts (k+1) me fs fs.length lf' H5:=fun e=>⟨lf,rfl,e▸I5⟩;by_cases hj0':0<j
    ·by_cases MP:j<fs.length
     ·refine⟨_,rfl,lf,_,rfl,.inl (OO.of e5),_,_,rfl,rfl,_,rfl,bF (a_ (by rw[l5];lia)) ⟨_,_,rfl,rfl,_,rfl,bF (a_ (by rw[l5];lia)) ?_⟩⟩;obtain⟨_,_,_,_,hcm⟩:=hf (j-1) zo;have hcm':(tz ts)[k+1+(3*j-1)]?=some ",":=by
       have:=hcm zo;rw[show k+1+3*(j-1)+2=k+1+(3*j-1)by lia]at this;exact this
      refine⟨_,rfl,a,W0,C,f3,_,UE,1,[Sm],_,rfl,Vr,rfl,T.cl,M3,F3,hr.m,B3,a,l,ts,_,me,",",rfl,I5.rd,hcm',rfl,_,rfl,bF zk ?_⟩;refine⟨fun σ' H'=>σ'=[some (.ref a),some (.ref lf)]/\FI C H a l ts (k+1) me fs (j+1) lf H',fun σ' H'⟨e1,e2⟩=>⟨_,zo,j+1,lf,rfl,zo,zo,e1,e2⟩,?_⟩;refine⟨_,rfl,a,W0,C,f2,_,UF,1,[Sm],_,rfl,Vr,rfl,T.cl,M2,F2,hr.m,B2,a,l,ts,_,me,",",rfl,I5.rd,hcm',fun H6 r6 b6=>?_⟩;obtain⟨dx6,ho6⟩:=r6.ob;have e6:=b6 _ _ e5 I5.la;obtain⟨g1,g2,g3,g4,_⟩:=hf j MP;have ek:k+1+(3*j-1)+1=k+1+3*j:=by lia
      rw[ek]at r6;refine⟨_,rfl,.inl ⟨rfl,_,OO.of e6⟩,_,rfl,a,l,ts,_,me,fs[j],rfl,r6,g1,g2,g3,g4,fun p H7 r7 b7 np ep=>?_⟩;have e7:=b7 _ _ e6 I5.la;have ek2:k+1+3*j+2=k+1+(3*(j+1)-1):=by lia
      rw[ek2]at r7;exact⟨lf,us,_,rfl,rfl,e7,by rw[l5];lia,rfl,I5.more MP ((b6.kt Vr).trans (b7.kt ho6)) e7 l5 p5 r7 (b6.trans b7) ep⟩
     ·have ZC:j=fs.length:=by lia
      have Yb:(tz ts)[k+1+(3*j-1)]?=some ")":=by rw[ZC];exact he
      by_cases h3':j<3
      ·refine⟨_,rfl,lf,_,rfl,.inl (OO.of e5),_,_,rfl,rfl,_,rfl,bF (a_ (by rw[l5];lia)) ⟨_,_,rfl,rfl,_,rfl,bF (a_ (by rw[l5];lia)) ?_⟩⟩;refine⟨_,rfl,a,W0,C,f3,_,UE,1,[Sm],_,rfl,Vr,rfl,T.cl,M3,F3,hr.m,B3,a,l,ts,_,me,")",rfl,I5.rd,Yb,rfl,_,rfl,bi zk (done ZC)⟩
      ·refine⟨_,rfl,lf,_,rfl,.inl (OO.of e5),_,_,rfl,rfl,_,rfl,bF (a_ (by rw[l5];lia)) ⟨_,_,rfl,rfl,_,rfl,bi (b_ (by rw[l5];lia)) (bP (done ZC))⟩⟩
    ·have ZC:j=fs.length:=by lia
     refine⟨_,rfl,lf,_,rfl,.inl (OO.of e5),_,_,rfl,rfl,_,rfl,bi (b_ (by rw[l5];lia)) ⟨_,rfl,bP (bP (done ZC))⟩⟩
  ·obtain⟨Va,UD⟩:=I0.rd.ob;by_cases hz:0<fs.length
   ·obtain⟨g1,g2,g3,g4,_⟩:=hf 0 hz;have nsc:fs[0].1≠(")":Str):=by
     intro z;obtain⟨_,_,_,hc⟩:=g2;rw[z]at hc;exact absurd (hc 41 zk) zo
    refine⟨_,rfl,a,Va,C,f3,_,UE,1,[Sm],_,rfl,UD,rfl,T.cl,M3,F3,hr.m,B3,a,l,ts,_,me,fs[0].1,rfl,I0.rd,g1,rfl,_,rfl,bF (by simpa using nsc) ?_⟩;refine⟨_,rfl,.inl ⟨rfl,_,OO.of e2⟩,_,rfl,a,l,ts,_,me,fs[0],rfl,I0.rd,g1,g2,g3,g4,fun p H7 r7 b7 np ep=>?_⟩;have e7:=b7 _ _ e2 I0.la;exact⟨lf,[],_,rfl,rfl,e7,by show 0<sizeLine;decide,1,lf,zo,rfl,I0.more hz (b7.kt UD) e7 rfl .nil r7 b7 ep⟩
   ·have hz0:fs.length=0:=by lia
    have Yb:(tz ts)[k+1+(3*0-1)]?=some ")":=by rw[hz0]at he;exact he
    refine⟨_,rfl,a,Va,C,f3,_,UE,1,[Sm],_,rfl,UD,rfl,T.cl,M3,F3,hr.m,B3,a,l,ts,_,me,")",rfl,I0.rd,Yb,rfl,_,rfl,bi (by simp) ?_⟩;exact⟨0,lf,zo,rfl,I0⟩
end
structure Kn where
 name:Str
 fs:Uu
 bd:Bd
 dd:Dd
inductive PR(H:Hp)(u:V)(x:Kn):Prop
 |mk(p tf b us:_):u=.ref p->H p=some (.tup [.str x.name,.ref tf,b])->H tf=some (.tup us)->Paired (Pc H) us x.fs->Q3 H x.bd b->PR H u x
def PR.kt(k:OZ H H')(h:PR H u x):PR H' u x:=by obtain⟨p,tf,b,us,a,c,d,e,f⟩:=h;exact ⟨p,tf,b,us,a,k _ _ c,k _ _ d,bD (fun _ _ h=>h.kt k) e,f.kt k⟩
def xh(x:Kn):Nat:=4+(3*x.fs.length-1)+(dk x.bd).length
structure um(ts:Us)(w k:Nat)(x:Kn):Prop where
 t0:(tz ts)[k]?=some SF
 t1:(tz ts)[k+1]?=some x.name
 nm:OY x.name
 t2:(tz ts)[k+2]?=some "("
 fl:ul ts (k+3) x.fs
 t3:(tz ts)[k+3+(3*x.fs.length-1)]?=some ")"
 le:x.fs.length<=3
 bt:At ts (k+4+(3*x.fs.length-1)) (dk x.bd)
 bo:fA w 3 x.bd
inductive uo(C:Ul)(vs:Uv)(H:Hp)(Q:VK)(Z3:XK):Prop
 |mk(a l ts k me x:_)(w:Nat):vs=[.ref a,.int w]->w<=24->O9 C H a l ts k me->um ts w k x->(∀u H',O9 C H' a l ts (k+xh x) me->OS a H H'->PR H' u x->Q u H')->uo C vs H Q Z3
section
def QK:az [Sv,Sr,"name",Tp] [Sv,Sr] (ak jC):=cv zk
def B6(F:O0 K "read_kind" "read_kind" jC f fd)(T:sJ P w K mg base C)(FS:Fn P w K mg base "read_fields" 4 [Sv] (lT C))(BD:Fn P w K mg base "read_body" n [Sv,Sr,Tl] (ku C 3))(hn:4<=n):OQ P w K mg base bQ (n+1) f fd [Sv,Sr] (uo C):=by
 have ZZ:=QK
 walk_at "o"
 ·obtain⟨a,l,ts,k,me,x,w,rfl,hw,hR,hK,q⟩:=h;have MF:OU 2 _:=hr.mono zo;have Wh:OU 4 _:=hr.mono zo;refine⟨_,ac (aQ (be (pv 0) (aa (aK (aa ai ab)) ab)))
   (ac (bL (i:=2) QK.nd (bh (pv 0)))
   (ac (bL (i:=3) QK.nd (ax FS Wh rfl (aa (pv 0) ab)))
   (ag (aw (aK (aa (pv 2) (aa (pv 3) (aa (ax BD hr rfl (aa (pv 0) (aa (pv 1) (aa af ab)))) ab)))))))),?_⟩
  obtain⟨f1,MG,M1,F1,B1⟩:=T.need;obtain⟨f2,UF,M2,F2,B2⟩:=T.nname;obtain⟨dx,ho⟩:=hR.ob;refine⟨_,rfl,a,dx,C,f1,_,MG,2,[Sm,SX],_,rfl,ho,rfl,T.cl,M1,F1,MF,B1,OT,fun p1 n1=>?_⟩;have s1:=aj (o:=.tup [.str SF]) n1;refine⟨a,l,ts,k,me,SF,p1,[SF],rfl,hR.same s1,hK.t0,(.inr (ON.of ae)),by simp,fun H1 r1 b1=>?_⟩;obtain⟨Vg,UL⟩:=r1.ob;refine⟨_,rfl,a,Vg,C,f2,_,UF,2,[Sm],_,rfl,UL,rfl,T.cl,M2,F2,MF,B2,a,l,ts,k+1,me,x.name,rfl,r1,hK.t1,hK.nm,fun H2 r2 b2=>?_⟩;refine⟨_,rfl,a,l,ts,k+2,me,x.fs,rfl,r2,hK.t2,hK.fl,hK.t3,hK.le,fun tf us H3 r3 b3 nf e3 p3=>?_⟩;obtain⟨Wl,U9⟩:=r3.ob;have ek:k+2+2+(3*x.fs.length-1)=k+4+(3*x.fs.length-1):=by lia
  rw[ek]at r3;refine⟨_,rfl,_,rfl,_,rfl,_,rfl,a,l,ts,k+4+(3*x.fs.length-1),me,x.bd,w,0,rfl,rfl,hw,r3,hK.bt,hK.bo,fun u H4 r4 b4 hu=>⟨OT,fun pt X0=>?_⟩⟩;have s5:=aj (o:=.tup [.str x.name,.ref tf,u]) X0;have k4:=b4.kt U9;have r5:=r4.same s5;rw[show k+4+(3*x.fs.length-1)+(dk x.bd).length=k+xh x by unfold xh;lia]at r5;exact q _ _ r5 ((((((bU s1).trans b1).trans b2).trans b3).trans b4).same s5) ⟨pt,tf,u,us,rfl,ae,s5 _ _ (k4 _ _ e3),bD (fun _ _ h=>(h.kt k4).kt (av s5)) p3,hu.kt (av s5)⟩
abbrev uq:Stmt:=cu fr 0
inductive pE(C:Ul)(vs:Uv)(H:Hp)(Q:VK)(Z3:XK):Prop
 |mk(x dx lt ts:_):vs=[.ref x,.ref lt]->H x=some (.ins C dx [])->H lt=some (.lst (ay ts))->ts.length<=1500->(∀l H',O9 C H' x l ts 0 true->OS x H H'->Q .non H')->pE C vs H Q Z3
def B7:az [Sm,S7] [Sm,S7] (ak uq):=cv zk
end
def B8(h:xs.length<=1500):mS xs none (some 1500)=xs:=by
 have e1:HT.sIx xs.length 0 none=0:=rfl;have e2:HT.sIx xs.length xs.length (some 1500)=xs.length:=by
  simp only[HT.sIx];rw[e_ zd];show min 1500 xs.length=xs.length;lia
 unfold mS;rw[e1,e2];simp
section
def y9(F:O0 K "__init__" "Reader.__init__" uq f fd)(T:Rc K C)(B:Bl mg)(hm:mg "MOST_TOKENS"=some (.int 1500 t5)):OQ P w K mg base bQ 1 f fd [Sm,S7] (pE C):=by
 have ZZ:=B7
 walk_at "o"
 ·obtain⟨x,dx,lt,ts,rfl,hx,hl,YY,q⟩:=h;refine⟨_,ac (cC (pv 0) (aH dA (fh oC (pv 1) oy (dP (bE (v:=.int 1500) rfl hm ⟨_,rfl⟩))) (aP (aa ai ab))) rfl)
   (ac (cC (pv 0) af rfl) (ag (cC (pv 0) (cb iQ (aI aL (by rfl) B.len KW (aa (pv 1) ab)) (bE (v:=.int 1500) rfl hm ⟨_,rfl⟩)) rfl))),?_⟩
  have lv:(ay ts).length<=1500:=by unfold ay;rw[Ky];exact YY
  have sz:(10000:Nat)<=sizeLine:=by decide
  refine⟨_,rfl,_,rfl,lt,_,rfl,OO.of hl,fun p1 n1=>?_⟩;rw[B8 lv];generalize zz:aM H p1 _=H1;have s1:=(nw n1 zz).1;have e1:H1 p1=some (.lst (ay ts)):=(nw n1 zz).2;clear zz;refine⟨OT,fun p2 n2=>?_⟩;have s2:=aj (o:=.lst [.str ""]) n2;have MO:=s1.trans s2;refine⟨p1,p2,_,_,rfl,rfl,s2 _ _ e1,ae,by show _+1<=_;lia,fun l nl=>?_⟩;have s3:=aj (o:=.lst (ay ts++[.str ""])) nl;have U5:=MO.trans s3;have el:(aM (aM H1 p2 (.lst [.str ""])) l (.lst (ay ts++[.str ""]))) l=some (.lst (ay (ts++[("":Str)]))):=by
   rw[ae];unfold ay;rw[KJ];rfl
  have nlH:H l=none:=MO.free nl;generalize aM (aM H1 p2 (.lst [V.str ""])) l (.lst (ay ts++[V.str ""]))=H3 at*;have lx:l≠x:=by
   rintro rfl;rw[nlH]at hx;cases hx
  have ltx:lt≠x:=by
   rintro rfl;rw[hl]at hx;cases hx
  refine⟨_,rfl,x,C,dx,_,rfl,U5 _ _ hx,T.cl,T.n1,(by show 0<1000;decide),?_⟩;refine⟨_,rfl,x,C,dx,_,rfl,ae,T.cl,T.n2,(by show 1<1000;decide),?_⟩;have X':(aM (aM H3 x (.ins C dx (aV S7 (.ref l) []))) x (.ins C dx (aV T_ (.int 0) (aV S7 (.ref l) [])))) lt=some (.lst (ay ts)):=by rw[au ltx,au ltx];exact U5 _ _ hl
  refine⟨_,rfl,lt,_,rfl,.inl (OO.of X'),_,_,rfl,rfl,?_⟩;refine⟨_,rfl,x,C,dx,_,rfl,ae,T.cl,T.n3,(by show 2<1000;decide),?_⟩;have hd:decide (((ay ts).length:Int)<=1500)=true:=a_ zo;have eF:(aV "may_end" (.bl (decide (((ay ts).length:Int)<=1500))) (aV T_ (.int 0) (aV S7 (.ref l) [])))=Bc l 0 true:=by rw[hd];rfl
  refine q l _ ⟨⟨dx,?_⟩,?_,YY⟩ ?_
  ·rw[ae];exact d_ some (d_ (HO.ins C dx) eF)
  ·rw[au lx,au lx,au lx];exact el
  ·intro b o e nb;rw[au nb,au nb,au nb];exact U5 _ _ e
end
structure Fm where
 width:Nat
 cells:Nat
 depth:Nat
 places:Us
 marks:Us
 gates:Us
 kinds:List Kn
def ky(ts:Us)(w:Nat):Nat->List Kn->Prop
 |k,[]=>k=ts.length
 |k,x::r=>um ts w k x/\ky ts w (k+xh x) r
structure pF(ts:Us)(D:Fm):Prop where
 a0:(tz ts)[0]?=some (SE:Str)
 a1:(tz ts)[1]?=some (toString (D.width:Int):Str)
 a2:(tz ts)[2]?=some (";":Str)
 a3:(tz ts)[3]?=some (Sw:Str)
 a4:(tz ts)[4]?=some (toString (D.cells:Int):Str)
 a5:(tz ts)[5]?=some (";":Str)
 a6:(tz ts)[6]?=some (Sx:Str)
 a7:(tz ts)[7]?=some (toString (D.depth:Int):Str)
 a8:(tz ts)[8]?=some (";":Str)
 a9:(tz ts)[9]?=some (So:Str)
 pn:rF ts 10 D.places
 pe:(tz ts)[10+D.places.length]?=some (";":Str)
 m9:(tz ts)[11+D.places.length]?=some (Ss:Str)
 mn:rF ts (12+D.places.length) D.marks
 me:(tz ts)[12+D.places.length+D.marks.length]?=some (";":Str)
 g9:(tz ts)[13+D.places.length+D.marks.length]?=some (SS:Str)
 gn:rF ts (14+D.places.length+D.marks.length) D.gates
 ge:(tz ts)[14+D.places.length+D.marks.length+D.gates.length]?=some (";":Str)
 ks:ky ts D.width (15+D.places.length+D.marks.length+D.gates.length) D.kinds
 bw:4<=D.width/\D.width<=24
 bc:4<=D.cells/\D.cells<=64
 bd:D.depth<=8
 bp:1<=D.places.length/\D.places.length<=4
 bm:D.marks.length<=3
 bg:D.gates.length<=1
 bk:1<=D.kinds.length/\D.kinds.length<=8
inductive za(H:Hp)(u:V)(D:Fm):Prop
 |mk(p pp pm pg pk us:_):u=.ref p->H p=some (.tup [.int D.width,.int D.cells,.int D.depth,.ref pp,.ref pm,.ref pg,.ref pk])->H pp=some (.tup (ay D.places))->H pm=some (.tup (ay D.marks))->H pg=some (.tup (ay D.gates))->H pk=some (.tup us)->Paired (PR H) us D.kinds->za H u D
inductive ur(vs:Uv)(H:Hp)(Q:VK)(Z3:XK):Prop
 |mk(lt ts D:_):vs=[.ref lt]->H lt=some (.lst (ay ts))->ts.length<=1500->pF ts D->(∀u H',OM H H'->za H' u D->Q u H')->ur vs H Q Z3
def fZ(na:H a=none)(sc:OM H Hc)(b:OS a Hc H'):OM H H':=fun c o e=>b c o (sc c o e) (ao e na)
structure KI(C:Ul)(Hc:Hp)(a l:Ul)(ts:Us)(all done j':List Kn)(lk pp pm pg:Ul)(D:Fm)(H':Hp):Prop where
 sp:all=done++j'
 rd:∃k,O9 C H' a l ts k true/\ky ts D.width k j'
 bt:OS a Hc H'
 nk:Hc lk=none
 la:lk≠a
 ll:lk≠l
 ep:H' pp=some (.tup (ay D.places))
 em:H' pm=some (.tup (ay D.marks))
 eg:H' pg=some (.tup (ay D.gates))
 ls:∃us,H' lk=some (.lst us)/\us.length=done.length/\Paired (PR H') us done
section
def Pq:az [S7,Sv,Sr,Sw,Sx,So,Ss,"gates",S5] [S7] (ak jB):=cv zk
def B9(F:O0 K "read_form" "read_form" jB f fd)(T:sJ P w K mg base C)(Z:uh K mg aS aE aF t1 t2 t3 t4)(B:Bl mg)(MK:Mk K C fi)(mgR:mg "Reader"=some (.ref C))(IN:OQ P w K mg base bQ 1 fi YZ [Sm,S7] (pE C))(bI:Pb K YZ [Sm,S7] [])
  (BO:Fn P w K mg base "read_bounded" 4 [Sv,SE,TU,S1] (jL C)) (NA:Fn P w K mg base "read_names" 3 [Sv,SE,"least","most"] (o8 C)) (KD:Fn P w K mg base "read_kind" n [Sv,Sr] (uo C)) (hn:6<=n):OQ P w K mg base bQ (n+1) f fd [S7] ur:=by
 have ZZ:=Pq
 walk_at "o"
 ·obtain⟨lt,ts,D,rfl,hl,YY,hF,q⟩:=h;have ME:OU 1 _:=hr.mono zo;have MF:OU 2 _:=hr.mono zo;have Vq:OU 3 _:=hr.mono zo;have Wh:OU 4 _:=hr.mono zo;have sz:(10000:Nat)<=sizeLine:=by decide
  refine⟨_,ac (bL (i:=1) Pq.nd (ke MK IN MF rfl mgR bI .nil iV (aa (pv 0) ab)))
   (ac (bL (i:=2) Pq.nd (ax BO Wh rfl (aa (pv 1) (aa ai (aa af (aa af ab))))))
   (ac (bL (i:=3) Pq.nd (ax BO Wh rfl (aa (pv 1) (aa ai (aa af (aa af ab))))))
   (ac (bL (i:=4) Pq.nd (ax BO Wh rfl (aa (pv 1) (aa ai (aa af (aa af ab))))))
   (ac (bL (i:=5) Pq.nd (ax NA Vq rfl (aa (pv 1) (aa ai (aa af (aa af ab))))))
   (ac (bL (i:=6) Pq.nd (ax NA Vq rfl (aa (pv 1) (aa ai (aa af (aa af ab))))))
   (ac (bL (i:=7) Pq.nd (ax NA Vq rfl (aa (pv 1) (aa ai (aa af (aa af ab))))))
   (ac (bL (i:=8) Pq.nd (aP (aa (ax KD hr rfl (aa (pv 1) (aa (pv 2) ab))) ab)))
   (ac (fW g_ (PW.pt (ck (aq eR (aI aL (by rfl) B.len KW (aa (pv 8) ab)) (bE (v:=.int 8) rfl Z.mkn ⟨_,rfl⟩)) (bM (aq aX (bh (pv 1)) ai))))
    (ag (aQ (ci KU KS KR bv (pv 8) (aa (ax KD hr rfl (aa (pv 1) (aa (pv 2) ab))) ab)))))
   (ac (aQ (bh (pv 1)))
   (ag (aw (aK (aa (pv 2) (aa (pv 3) (aa (pv 4) (aa (pv 5) (aa (pv 6) (aa (pv 7) (aa (aY bC (by rfl) B.tuple bG (aa (pv 8) ab)) ab))))))))))))))))))),?_⟩
  obtain⟨f3,UE,M3,F3,B3⟩:=T.look;obtain⟨f4,XJ,M4,F4,B4⟩:=T.nend;refine⟨_,rfl,fun a dx na nd ne=>⟨a,dx,lt,ts,rfl,ae,?_,YY,fun l H1 r1 b1=>⟨rfl,?_⟩⟩⟩
  ·exact(cj na (aj nd)) _ _ hl
  have s1:OM H H1:=fZ na (cj na (aj nd)) b1;have naH:=na;clear b1;refine⟨_,rfl,a,l,ts,0,true,SE,D.width,4,24,rfl,r1,hF.a0,hF.a1,hF.a2,by have:=hF.bw;lia,hF.bw.1,hF.bw.2,fun H2 r2 b2=>?_⟩;refine⟨_,rfl,a,l,ts,3,true,Sw,D.cells,4,64,rfl,r2,hF.a3,hF.a4,hF.a5,by have:=hF.bc;lia,hF.bc.1,hF.bc.2,fun H3 r3 b3=>?_⟩;refine⟨_,rfl,a,l,ts,6,true,Sx,D.depth,0,8,rfl,r3,hF.a6,hF.a7,hF.a8,by have:=hF.bd;lia,Lh _,hF.bd,fun H4 r4 b4=>?_⟩;have b14:=(b2.trans b3).trans b4;refine⟨_,rfl,a,l,ts,9,true,So,D.places,1,4,rfl,r4,hF.a9,hF.pn,hF.pe,hF.bp.1,hF.bp.2,zd,fun pp H5 r5 b5 np5 e5=>?_⟩;refine⟨_,rfl,a,l,ts,9+2+D.places.length,true,Ss,D.marks,0,3,rfl,r5,?_,?_,?_,Lh _,hF.bm,zd,fun pm H6 r6 b6 np6 e6=>?_⟩
  ·exact hF.m9
  ·rw[show 9+2+D.places.length+1=12+D.places.length by lia];exact hF.mn
  ·rw[show 9+2+D.places.length+1+D.marks.length=12+D.places.length+D.marks.length by lia];exact hF.me
  obtain⟨W0,Vr⟩:=r5.ob;have ZW:=(b6.kt Vr) _ _ e5;refine⟨_,rfl,a,l,ts,9+2+D.places.length+2+D.marks.length,true,SS,D.gates,0,1,rfl,r6,?_,?_,?_,Lh _,hF.bg,zd,fun pg H7 r7 b7 np7 e7=>?_⟩
  ·rw[show 9+2+D.places.length+2+D.marks.length=13+D.places.length+D.marks.length by lia];exact hF.g9
  ·rw[show 9+2+D.places.length+2+D.marks.length+1=14+D.places.length+D.marks.length by lia];exact hF.gn
  ·rw[show 9+2+D.places.length+2+D.marks.length+1+D.gates.length=14+D.places.length+D.marks.length+D.gates.length by lia];exact hF.ge
  obtain⟨dx6,ho6⟩:=r6.ob;have e5'':=(b7.kt ho6) _ _ ZW;have e6':=(b7.kt ho6) _ _ e6;rw[show 9+2+D.places.length+2+D.marks.length+2+D.gates.length=15+D.places.length+D.marks.length+D.gates.length by lia]at r7;have b17:OS a H1 H7:=((b14.trans b5).trans b6).trans b7;have hks:=hF.ks;have hbk:=hF.bk;generalize 15+D.places.length+D.marks.length+D.gates.length=k0 at*;obtain⟨x0,XS,hk0⟩:∃x r,D.kinds=x::r:=by
   cases hh:D.kinds with
   |nil=>rw[hh]at hbk;simp at hbk
   |cons x r=>exact⟨x,r,rfl⟩
  rw[hk0]at hks hbk;obtain⟨hK0,hks'⟩:=hks;refine⟨_,rfl,_,rfl,a,l,ts,k0,true,x0,D.width,rfl,hF.bw.2,r7,hK0,fun u0 H8 r8 b8 hu0=>?_⟩;obtain⟨dx7,ho7⟩:=r7.ob;have kk8:=b8.kt ho7;refine⟨OT,fun lk nk=>?_⟩;have s9:=aj (o:=.lst [u0]) nk;have b19:OS a H1 (aM H8 lk (.lst [u0])):=(b17.trans b8).same s9;obtain⟨dx8,ho8⟩:=r8.ob;obtain⟨Vg,UL⟩:=r1.ob;have nkH1:H1 lk=none:=i5 (b17.trans b8) ho8 nk;have lka:lk≠a:=by
   rintro rfl;rw[ho8]at nk;cases nk
  have lkl:lk≠l:=fun z=>by
   have:=r8.tk;rw[<-z,nk]at this;cases this
  have I0:KI C H1 a l ts D.kinds [x0] XS lk pp pm pg D (aM H8 lk (.lst [u0])):=⟨hk0,⟨_,r8.same s9,hks'⟩,b19,nkH1,lka,lkl,s9 _ _ (kk8 _ _ e5''),s9 _ _ (kk8 _ _ e6'),s9 _ _ (kk8 _ _ e7),[u0],ae,rfl,.cons (hu0.kt (av s9)) .nil⟩;generalize aM H8 lk (.lst [u0])=H9 at*;refine⟨fun m σ H'=>∃done j',m=j'.length/\σ=[some (.ref lt),some (.ref a),some (.int D.width),some (.int D.cells),some (.int D.depth),some (.ref pp),some (.ref pm),some (.ref pg),some (.ref lk)]/\KI C H1 a l ts D.kinds done j' lk pp pm pg D H',⟨_,[x0],XS,rfl,rfl,I0⟩,?_⟩;rintro m σ Ha ⟨done,j',rfl,rfl,I⟩;obtain⟨us,ek,lu,pu⟩:=I.ls;obtain⟨k,rk,hkr⟩:=I.rd;obtain⟨dxa,Zv⟩:=rk.ob;have WB:done.length+j'.length<=8:=by
   have:=d_ List.length I.sp;rw[Kz,hk0]at this;simp only[KC]at this hbk;lia
  cases j' with
  |cons x r=>
   obtain⟨hKx,hkr'⟩:=hkr;have MP:done.length<8:=by simp only[KC]at WB;lia
   refine⟨_,rfl,lk,_,rfl,.inl (OO.of ek),_,_,rfl,rfl,_,rfl,bF (a_ (by rw[lu];lia)) ?_⟩;refine⟨_,rfl,a,dxa,C,f3,_,UE,1,[Sm],_,rfl,Zv,rfl,T.cl,M3,F3,ME,B3,a,l,ts,k,true,SF,rfl,rk,hKx.t0,rfl,_,rfl,bF zk ?_⟩;refine⟨fun σ' H'=>σ'=[some (.ref lt),some (.ref a),some (.int D.width),some (.int D.cells),some (.int D.depth),some (.ref pp),some (.ref pm),some (.ref pg),some (.ref lk)]/\KI C H1 a l ts D.kinds (done++[x]) r lk pp pm pg D H',fun σ' H'⟨e1,e2⟩=>⟨r.length,by simp,done++[x],r,rfl,e1,e2⟩,?_⟩;refine⟨_,rfl,.inl ⟨rfl,_,OO.of ek⟩,_,rfl,_,rfl,a,l,ts,k,true,x,D.width,rfl,hF.bw.2,rk,hKx,fun u Hb rb bb hu=>?_⟩;have kb:=bb.kt Zv;have eb:=bb _ _ ek I.la;have k2:=vU (ys:=us++[u]) eb;refine⟨lk,us,_,rfl,rfl,eb,by rw[lu];lia,rfl,?_⟩;refine⟨by rw[I.sp,Le];rfl,⟨_,⟨?_,?_,rb.le⟩,hkr'⟩,?_,I.nk,I.la,I.ll,k2 _ _ (kb _ _ I.ep),k2 _ _ (kb _ _ I.em),k2 _ _ (kb _ _ I.eg),us++[u],ae,by simp[lu],eu (hu.kt k2) (bD (fun _ _ h=>(h.kt kb).kt k2) pu)⟩
   ·obtain⟨dxb,hob⟩:=rb.ob;exact⟨dxb,by rw[au I.la.symm];exact hob⟩
   ·rw[au I.ll.symm];exact rb.tk
   ·intro b o e nb;by_cases h:b=lk
    ·rw[h,I.nk]at e;cases e
    ·rw[au h];exact bb _ _ (I.bt _ _ e nb) nb
  |nil=>
   have hkE:k=ts.length:=hkr;have XW:D.kinds=done:=by rw[I.sp,Lm]
   have lend:(tz ts)[k]?=some "":=by rw[hkE];simp[tz]
   have nke:("":Str)≠(SF:Str):=by decide +kernel
   have sH:OM H Ha:=fZ naH s1 I.bt;by_cases h8:done.length<8
   ·refine⟨_,rfl,lk,_,rfl,.inl (OO.of ek),_,_,rfl,rfl,_,rfl,bF (a_ (by rw[lu];lia)) ?_⟩;refine⟨_,rfl,a,dxa,C,f3,_,UE,1,[Sm],_,rfl,Zv,rfl,T.cl,M3,F3,ME,B3,a,l,ts,k,true,"",rfl,rk,lend,rfl,_,rfl,bi zk ?_⟩;refine⟨_,rfl,a,dxa,C,f4,_,XJ,1,[Sm],_,rfl,Zv,rfl,T.cl,M4,F4,ME,B4,a,l,ts,k,rfl,rk,hkE,?_⟩;refine⟨_,rfl,_,rfl,_,rfl,_,rfl,_,rfl,_,rfl,_,rfl,lk,us,rfl,.inl ⟨OO.of ek,fun pk npk=>⟨OT,fun pt X0=>?_⟩⟩⟩;have Vz:=aj (o:=.tup us) npk;have U6:=aj (o:=.tup [.int D.width,.int D.cells,.int D.depth,.ref pp,.ref pm,.ref pg,.ref pk]) X0;have MO:=Vz.trans U6;exact q _ _ (sH.trans MO) ⟨pt,pp,pm,pg,pk,us,rfl,ae,MO _ _ I.ep,MO _ _ I.em,MO _ _ I.eg,U6 _ _ ae,by rw[XW];exact bD (fun _ _ h=>h.kt (av MO)) pu⟩
   ·refine⟨_,rfl,lk,_,rfl,.inl (OO.of ek),_,_,rfl,rfl,_,rfl,bi (b_ (by rw[lu];lia)) (bP ?_)⟩;refine⟨_,rfl,a,dxa,C,f4,_,XJ,1,[Sm],_,rfl,Zv,rfl,T.cl,M4,F4,ME,B4,a,l,ts,k,rfl,rk,hkE,?_⟩;refine⟨_,rfl,_,rfl,_,rfl,_,rfl,_,rfl,_,rfl,_,rfl,lk,us,rfl,.inl ⟨OO.of ek,fun pk npk=>⟨OT,fun pt X0=>?_⟩⟩⟩;have Vz:=aj (o:=.tup us) npk;have U6:=aj (o:=.tup [.int D.width,.int D.cells,.int D.depth,.ref pp,.ref pm,.ref pg,.ref pk]) X0;have MO:=Vz.trans U6;exact q _ _ (sH.trans MO) ⟨pt,pp,pm,pg,pk,us,rfl,ae,MO _ _ I.ep,MO _ _ I.em,MO _ _ I.eg,U6 _ _ ae,by rw[XW];exact bD (fun _ _ h=>h.kt (av MO)) pu⟩
end
abbrev Ne:=Str×Str×Bool×Nat
def lU(b:Bool):Str:=if b then "by" else "is"
def Rz(H:Hp)(kv:cQ×V)(x:Ne):Prop:=kv.1=Sum.inr x.1/\∃p q,kv.2=.ref p/\H p=some (.tup [.str x.2.1,.ref q])/\H q=some (.tup [.str (lU x.2.2.1),.int (x.2.2.2:Nat)])
inductive P3(H:Hp)(d:Ul)(ks:List Ne):Prop
 |mk(kvs:_):H d=some (.dK kvs)->Paired (Rz H) kvs ks->P3 H d ks
def Rz.kt(k:OZ H H')(h:Rz H kv x):Rz H' kv x:=by obtain⟨a,p,q,b,c,d⟩:=h;exact ⟨a,p,q,b,k _ _ c,k _ _ d⟩
def DF(e:H l=some (.dK xs)):OZ H (aM H l (.dK ys)):=fun b us h=>by
 rw[au]
 ·exact h
 ·rintro rfl;rw[e]at h;cases h
def zb:∀{kvs:List (cQ×V)}{ks:List Ne},Paired (Rz H) kvs ks->∀{z:Str},z∉ks.map (·.1)->bq kvs (Sum.inr z)=none
 |_,_,.nil,_,_=>qZ
 |_,_,.cons (a:=kv) (b:=x) h t,z,hz=>by
  rw[cz]
  ·exact zb t (fun m=>hz (KM _ m))
  ·intro e;rw[h.1]at e;have:=R3 e;exact hz (by rw[K2,this];exact KB)
def vW:∀{kvs:List (cQ×V)}{ks:List Ne},Paired (Rz H) kvs ks->∀{z s:Str}{b:Bool}{n:Nat},(z,s,b,n)∈ks->(ks.map (·.1)).Nodup->∃p q,bq kvs (Sum.inr z)=some (.ref p)/\H p=some (.tup [.str s,.ref q])/\H q=some (.tup [.str (lU b),.int (n:Nat)])
 |_,_,.nil,_,_,_,_,m,_=>by cases m
 |_,_,.cons (a:=kv) (b:=x) h t,z,s,b,n,m,nd=>by
  rw[K2,Mj]at nd;rcases KH.mp m with e|m'
  ·obtain⟨e1,p,q,e2,e3,e4⟩:=h;subst e;refine⟨p,q,?_,e3,e4⟩;rw[cH e1,e2]
  ·have MM:¬kv.1=Sum.inr z:=by
    intro e;rw[h.1]at e;have:=R3 e;exact nd.1 (by rw[this];exact K4.mpr ⟨(z,s,b,n),m',rfl⟩)
   rw[cz MM];exact vW t m' nd.2
inductive hZ(vs:Uv)(H:Hp)(Q:VK)(Z3:XK):Prop
 |mk(d ks nm st q:_)(b:Bool)(n:Nat):vs=[.ref d,.str nm,.str st,.ref q]->P3 H d ks->H q=some (.tup [.str (lU b),.int (n:Nat)])->nm∉ks.map (·.1)->ks.length<=20->(∀H',P3 H' d (ks++[(nm,st,b,n)])->OS d H H'->Q .non H')->hZ vs H Q Z3
inductive cX(K:ZF)(vs:Uv)(H:Hp)(Q:VK)(Z3:XK):Prop
 |mk(d ks nm st p xs:_)(b:Bool)(n:Nat):vs=[.ref d,.str nm,.ref p]->P3 H d ks->(nm,st,b,n)∈ks->(ks.map (·.1)).Nodup->(OO K H p (ay xs)\/ON K H p (ay xs))->st∈xs->(∀t q H',OM H H'->H' t=some (.tup [.str st,.ref q])->H' q=some (.tup [.str (lU b),.int (n:Nat)])->Q (.ref t) H')->cX K vs H Q Z3
section
def xi:az [Sz,"name",Tq,SY] [Sz,"name",Tq,SY] (ak lF):=cv zk
def uv(F:O0 K "add_name" "add_name" lF f fd):OQ P w K mg base bQ 1 f fd [Sz,"name",Tq,SY] hZ:=by
 have ZZ:=xi
 walk_at "o"
 ·obtain⟨d,ks,nm,st,sq,b,n,rfl,hN,hq,hm,hk,q⟩:=h;have hu:=eo hr;refine⟨_,ac (aT (sL (yu hu (pv 1) (pv 0))) (ag bV) aG) (ag (gW hu (pv 0) (pv 1) (aK (aa (pv 2) (aa (pv 3) ab))) rfl)),?_⟩;obtain⟨kvs,hd,hp⟩:=hN;have WT:=zb hp hm;have lk:=hp.length;have szz:(1000:Nat)<=sizeLine:=by decide
  have g:Pj H d (.str nm) none:=by
   have:=Pj.k (k:=Sum.inr nm) hd;rw[WT]at this;exact this
  refine⟨_,rfl,_,rfl,d,_,rfl,g,_,rfl,bP ?_⟩;refine⟨_,rfl,_,rfl,OT,fun p np=>?_⟩;generalize zz:aM H p _=H1;have⟨s1,ep⟩:=nw np zz;clear zz;have hd1:=s1 _ _ hd;have X8:=s1 _ _ hq;refine⟨_,rfl,_,rfl,d,_,rfl,P4.k (k:=Sum.inr nm) hd1 zo,?_⟩;rw[rj _ WT];have k1:=DF (ys:=kvs++[(Sum.inr nm,V.ref p)]) hd1;refine q _ ⟨_,ae,eu ⟨rfl,p,sq,rfl,k1 _ _ ep,k1 _ _ X8⟩ (bD (fun _ _ h=>(h.kt (av s1)).kt k1) hp)⟩ (fun b o e nb=>?_);rw[au nb];exact s1 _ _ e
def Pw:az [Sz,"name",Uc,Tq,SY] [Sz,"name",Uc] (ak iA):=cv zk
def pG(F:O0 K "need_known" "need_known" iA f fd):OQ P w K mg base bQ 1 f fd [Sz,"name",Uc] (cX K):=by
 have ZZ:=Pw
 walk_at "o"
 ·obtain⟨d,ks,nm,st,p,xs,b,n,rfl,hN,hm,M',hq,hs,q⟩:=h;have hu:=eo hr;refine⟨_,ac (aT (sL (wX hu (pv 1) (pv 0))) (ag bV) aG)
   (ac (df (bx hu (pv 0) (pv 1)) (cr rfl (aA (cq (i:=3) Pw.nd) (aA (cq (i:=4) Pw.nd) br))))
   (ac (aT (aq eV (pv 3) (pv 2) rfl) (ag bV) aG)
   (ag (aw (aK (aa (pv 3) (aa (pv 4) ab))))))),?_⟩
  obtain⟨kvs,hd,hp⟩:=hN;obtain⟨p0,sq,hv,e0,e1⟩:=vW hp hm M';have g:Pj H d (.str nm) (some (.ref p0)):=by
   have:=Pj.k (k:=Sum.inr nm) hd;rw[hv]at this;exact this
  refine⟨_,rfl,_,rfl,d,_,rfl,g,_,rfl,bP ?_⟩;refine⟨_,rfl,_,rfl,d,_,rfl,g,p0,_,rfl,ON.of e0,rfl,_,_,rfl,_,_,rfl,rfl,?_⟩;refine⟨_,rfl,_,rfl,p,ay xs,rfl,hq,rfl,eI _,_,rfl,bi ?_ ?_⟩
  ·show(!j7 (.str st) (ay xs))=false;rw[dU,Lg.mpr hs];rfl
  ·refine⟨_,rfl,_,rfl,OT,fun t nt=>?_⟩;exact q t sq _ (aj nt) ae (aj nt _ _ e1)
end
def ux:bootBuiltins "dict"=some (.type "dict"):=by decide +kernel
structure Ca(mg:Str->Option Uk):Prop where
 dict:mg "dict"=none
 enumerate:mg "enumerate"=none
def fN(fs:Uu):List Ne:=fs.mapIdx fun j x=>(x.1,x.2,true,j)
def zc(fs:Uu)(i:Nat):(fN fs)[i]?=fs[i]?.map fun x=>(x.1,x.2,true,i):=by unfold fN;rw[List.getElem?_mapIdx]
def uy(fs:Uu):(fN fs).length=fs.length:=by unfold fN;simp
inductive ze(vs:Uv)(H:Hp)(Q:VK)(Z3:XK):Prop
 |mk(d tf us ks fs:_):vs=[.ref d,.ref tf]->P3 H d ks->H tf=some (.tup us)->Paired (Pc H) us fs->((ks++fN fs).map (·.1)).Nodup->ks.length+fs.length<=20->(∀d' H',OM H H'->H d'=none->P3 H' d' (ks++fN fs)->Q (.ref d') H')->ze vs H Q Z3
section
def Qz:az [Sz,Tp,"within","j","name",Tq] [Sz,Tp] (ak iB):=cv zk
def Fb(F:O0 K "names_with_fields" "names_with_fields" iB f fd)(B:Ca mg)(AN:Fn P w K mg base "add_name" 1 [Sz,"name",Tq,SY] hZ):OQ P w K mg base bQ 2 f fd [Sz,Tp] ze:=by
 have ZZ:=Qz
 walk_at "o"
 ·obtain⟨d,tf,us,ks,fs,rfl,⟨kvs,hd,hp⟩,ht,hf,M',h20,q⟩:=h;refine⟨_,ac (bL (i:=2) Qz.nd (aY tD (by rfl) B.dict ux (aa (pv 0) ab)))
   (ac (cc g_ rfl (lB rfl B.enumerate (aa (pv 1) ab)) (cr rfl (aA (cq (i:=3) Qz.nd) (aA (cr rfl (aA (cq (i:=4) Qz.nd) (aA (cq (i:=5) Qz.nd) br))) br)))
    (ag (aQ (ax AN hr rfl (aa (pv 2) (aa (pv 4) (aa (pv 5) (aa (aK (aa ai (aa (pv 3) ab))) ab))))))))
   (ag (aw (pv 2)))),?_⟩
  refine⟨_,rfl,d,kvs,rfl,hd,fun d' W4=>?_⟩;generalize zz:aM H d' _=H1;have s1:=(nw W4 zz).1;have e1:H1 d'=some (.dK kvs):=(nw W4 zz).2;clear zz;refine⟨_,rfl,tf,rfl,⟨_,ON.of (s1 _ _ ht)⟩,?_⟩;have lf:=hf.length;refine jA (K:=K) (l:=tf) (xs:=us) (fun i σ H'=>∃v3 v4 v5:Option V,σ=[some (.ref d),some (.ref tf),some (.ref d'),v3,v4,v5]/\OM H H'/\P3 H' d' (ks++(fN fs).take i)) ⟨_,_,_,rfl,s1,kvs,e1,by simpa using bD (fun _ _ h=>h.kt (av s1)) hp⟩ (fun i σ H' _⟨_,_,_,_,s',_⟩=>ON.of (s' _ _ ht)) ?_ ?_
  ·rintro i x σ H2 T1 hx nT ⟨v3,v4,v5,rfl,s2,n2⟩;obtain⟨y,hy,pf,rfl,U8⟩:=dB hf hx;have MP:i<fs.length:=(Kx.mp hy).1;have s3:=aj (o:=.tup [.int (i:Int),.ref pf]) nT;have s23:=s2.trans s3;refine⟨T1,_,rfl,ON.of ae,rfl,_,_,rfl,_,_,rfl,⟨pf,_,rfl,ON.of (s23 _ _ U8),rfl,_,_,rfl,_,_,rfl,rfl,rfl,?_⟩⟩;refine⟨_,rfl,_,rfl,_,rfl,_,rfl,OT,fun t nt=>?_⟩;have s4:=aj (o:=.tup [.str "by",.int (i:Int)]) nt;have s24:=s23.trans s4;have n4:P3 (aM (aM H2 T1 (.tup [.int (i:Int),.ref pf])) t (.tup [.str "by",.int (i:Int)])) d' (ks++(fN fs).take i):=let⟨kv2,a,b⟩:=n2;⟨kv2,(s3.trans s4) _ _ a,bD (fun _ _ h=>h.kt (av (s3.trans s4))) b⟩;have Wf:(fN fs)[i]?=some (y.1,y.2,true,i):=by rw[zc,hy];rfl
   have WA:i<(fN fs).length:=by rw[uy];exact MP
   have Wv:(fN fs).take (i+1)=(fN fs).take i++[(y.1,y.2,true,i)]:=by rw[Lj,Wf];rfl
   refine⟨d',_,y.1,y.2,t,true,i,rfl,n4,ae,?_,?_,fun H5 n5 b5=>⟨_,_,_,rfl,fZ W4 s24 b5,?_⟩⟩
   ·intro hm;have e5:ks++fN fs=(ks++(fN fs).take i)++((y.1,y.2,true,i)::(fN fs).drop (i+1)):=by
     rw[Le]
     congr 1
     have:=(Ly i (fN fs)).symm;rw[Lq WA]at this;rw[(Kx.mp Wf).2]at this;exact this
    rw[e5,KJ,K2]at M';exact(Ms.mp M').2.2 _ hm _ KB rfl
   ·rw[Kz,KG,uy];lia
   ·rw[Wv,<-Le];exact n5
  ·rintro σ H2 ⟨v3,v4,v5,rfl,s2,n2⟩;rw[lf,<-uy,K7]at n2;exact⟨_,rfl,q d' H2 s2 W4 n2⟩
end
inductive Qy(H:Hp)(b:Bool)(n:Nat)(v:V):Prop
 |mk(q:_):v=.ref q->H q=some (.tup [.str (lU b),.int (n:Nat)])->Qy H b n v
def Qy.kt(k:OZ H H')(h:Qy H b n v):Qy H' b n v:=let⟨p,a,c⟩:=h;⟨p,a,k _ _ c⟩
def Qc(H:Hp):Ed->V->Prop
 |.num n,v=>∃p,v=.ref p/\H p=some (.tup [.str "number",.int (n:Nat)])
 |.fld j,v=>∃p,v=.ref p/\H p=some (.tup [.str "field",.int (j:Nat)])
 |.pl b n,v=>∃p u,v=.ref p/\H p=some (.tup [.str Sn,u])/\Qy H b n u
 |.mk b n,v=>∃p u,v=.ref p/\H p=some (.tup [.str Su,u])/\Qy H b n u
 |.cell e,v=>∃p u,v=.ref p/\H p=some (.tup [.str "cell",u])/\Qc H e u
 |.two o x y,v=>∃p u t,v=.ref p/\H p=some (.tup [.str o,u,t])/\Qc H x u/\Qc H y t
def Qc.kt(k:OZ H H'):∀{e:Ed}{v:V},Qc H e v->Qc H' e v
 |.num _,_,⟨p,a,b⟩=>⟨p,a,k _ _ b⟩
 |.fld _,_,⟨p,a,b⟩=>⟨p,a,k _ _ b⟩
 |.pl _ _,_,⟨p,u,a,b,c⟩=>⟨p,u,a,k _ _ b,c.kt k⟩
 |.mk _ _,_,⟨p,u,a,b,c⟩=>⟨p,u,a,k _ _ b,c.kt k⟩
 |.cell _,_,⟨p,u,a,b,c⟩=>⟨p,u,a,k _ _ b,Qc.kt k c⟩
 |.two _ _ _,_,⟨p,u,t,a,b,c,d⟩=>⟨p,u,t,a,k _ _ b,Qc.kt k c,Qc.kt k d⟩
inductive uz(ks:List Ne):Ex->Ed->Prop
 |num (n:Nat):uz ks (.num n) (.num n)
 |fld {z:Str} {b:Bool} {n:Nat}:(z,("number":Str),b,n)∈ks->uz ks (.nm z) (.fld n)
 |pl {z:Str} {b:Bool} {n:Nat}:(z,(Sn:Str),b,n)∈ks->uz ks (.nm z) (.pl b n)
 |mk{z:Str}{b:Bool}{n:Nat}:(z,(Su:Str),b,n)∈ks->uz ks (.nm z) (.mk b n)
 |cell {e:Ex} {d:Ed}:uz ks e d->uz ks (.cell e) (.cell d)
 |two {o:Str} {x y:Ex} {a b:Ed}:o∈O8->uz ks x a->uz ks y b->uz ks (.two o x y) (.two o a b)
def qG:Ex->Nat
 |.num _=>0
 |.nm _=>0
 |.cell e=>qG e+1
 |.two _ x y=>max (qG x) (qG y)+1
inductive vX(m:Nat)(vs:Uv)(H:Hp)(Q:VK):Prop
 |mk(d ks v e ed:_):vs=[.ref d,v]->P3 H d ks->(ks.map (·.1)).Nodup->Qj H e v->uz ks e ed->qG e<=m->(∀u H',OM H H'->Qc H' ed u->Q u H')->vX m vs H Q
def pH :Nat->Sp
 |0=>jN
 |m+1=>fun vs H Q _=>vX m vs H Q
def P3.same(h:P3 H d ks)(s:OM H H'):P3 H' d ks:=let⟨kv,a,b⟩:=h;⟨kv,s _ _ a,bD (fun _ _ h=>h.kt (av s)) b⟩
def Fc:("number":Str)∉O8/\("name":Str)∉O8/\("cell":Str)∉O8:=by decide +kernel
section
def Qr:az [Sz,"e",Tq,SY,"one"] [Sz,"e"] (ak oM):=cv zk
def kA(F:O0 K "expression_of" "expression_of" oM f fd)(NK:Fn P w K mg base "need_known" 1 [Sz,"name",Uc] (cX K))(EX:Fn P w K mg base "expression_of" n [Sz,"e"] (pH m))(hn:1<=n):OQ P w K mg base bQ (n+1) f fd [Sz,"e"] (pH (m+1)):=by
 have ZZ:=Qr
 walk_at "o"
 ·obtain⟨d,ks,v,e,ed,rfl,hN,M',hV,hE,hD,q⟩:=h;have ME:OU 1 _:=hr.mono zo;refine⟨_,ac (aT (aq aX (aB aJ (pv 1) af) ai) (ag (aw (pv 1))) aG)
   (ac (aT (aq aX (aB aJ (pv 1) af) ai)
    (ac (df (ax NK ME rfl (aa (pv 0) (aa (aB aJ (pv 1) af) (aa (aK (aa ai (aa ai (aa ai ab)))) ab)))) (cr rfl (aA (cq (i:=2) Qr.nd) (aA (cq (i:=3) Qr.nd) br))))
    (ag (aw (di (aq aX (pv 2) ai) (aK (aa ai (aa (aB aJ (pv 3) af) ab))) (aK (aa (pv 2) (aa (pv 3) ab))))))) aG)
   (ac (aT (aq aX (aB aJ (pv 1) af) ai) (ag (aw (aK (aa ai (aa (ax EX hr rfl (aa (pv 0) (aa (aB aJ (pv 1) af) ab))) ab))))) aG)
   (ac (bL (i:=4) Qr.nd (ax EX hr rfl (aa (pv 0) (aa (aB aJ (pv 1) af) ab))))
   (ag (aw (aK (aa (aB aJ (pv 1) af) (aa (pv 4) (aa (ax EX hr rfl (aa (pv 0) (aa (aB aJ (pv 1) af) ab))) ab))))))))),?_⟩
  have nnum:∀z:Str,z≠"number"->decide (V.str z=V.str "number")=false:=fun z h=>b_ fun e=>h (V.str.inj e);cases hE with
  |num i=>
   obtain⟨p,rfl,hp⟩:=hV;refine⟨_,rfl,p,_,_,_,rfl,rfl,ON.of hp,bH,rfl,_,rfl,bF (a_ rfl) ⟨_,rfl,q _ _ (OM.refl _) ⟨p,rfl,hp⟩⟩⟩
  |@fld z b i hm=>
   obtain⟨p,rfl,hp⟩:=hV;refine⟨_,rfl,p,_,_,_,rfl,rfl,ON.of hp,bH,rfl,_,rfl,bi zk ?_⟩;refine⟨_,rfl,p,_,_,_,rfl,rfl,ON.of hp,bH,rfl,_,rfl,bF (a_ rfl) ?_⟩;refine⟨_,rfl,_,rfl,p,_,_,_,rfl,rfl,ON.of hp,cM,OT,fun t nt=>?_⟩;have s1:=aj (o:=.tup [.str Sn,.str Su,.str "number"]) nt;refine⟨d,ks,z,"number",t,[Sn,Su,"number"],b,i,rfl,hN.same s1,hm,M',.inr (ON.of ae),zk,fun t2 sq H2 s2 e2 e3=>?_⟩;refine⟨t2,_,rfl,ON.of e2,rfl,_,_,rfl,_,_,rfl,rfl,?_⟩;refine⟨_,rfl,rfl,_,rfl,bF (a_ rfl) ⟨_,rfl,sq,_,_,_,rfl,rfl,ON.of e3,cM,OT,fun p4 n4=>?_⟩⟩;exact q _ _ ((s1.trans s2).trans (aj n4)) ⟨p4,rfl,ae⟩
  |@pl z b i hm=>
   obtain⟨p,rfl,hp⟩:=hV;refine⟨_,rfl,p,_,_,_,rfl,rfl,ON.of hp,bH,rfl,_,rfl,bi zk ?_⟩;refine⟨_,rfl,p,_,_,_,rfl,rfl,ON.of hp,bH,rfl,_,rfl,bF (a_ rfl) ?_⟩;refine⟨_,rfl,_,rfl,p,_,_,_,rfl,rfl,ON.of hp,cM,OT,fun t nt=>?_⟩;have s1:=aj (o:=.tup [.str Sn,.str Su,.str "number"]) nt;refine⟨d,ks,z,Sn,t,[Sn,Su,"number"],b,i,rfl,hN.same s1,hm,M',.inr (ON.of ae),zk,fun t2 sq H2 s2 e2 e3=>?_⟩;refine⟨t2,_,rfl,ON.of e2,rfl,_,_,rfl,_,_,rfl,rfl,?_⟩;refine⟨_,rfl,rfl,_,rfl,bi zk ⟨_,rfl,_,rfl,OT,fun p4 n4=>?_⟩⟩;have s4:=aj (o:=.tup [.str Sn,.ref sq]) n4;exact q _ _ ((s1.trans s2).trans s4) ⟨p4,.ref sq,rfl,ae,sq,rfl,s4 _ _ e3⟩
  |@mk z b i hm=>
   obtain⟨p,rfl,hp⟩:=hV;refine⟨_,rfl,p,_,_,_,rfl,rfl,ON.of hp,bH,rfl,_,rfl,bi zk ?_⟩;refine⟨_,rfl,p,_,_,_,rfl,rfl,ON.of hp,bH,rfl,_,rfl,bF (a_ rfl) ?_⟩;refine⟨_,rfl,_,rfl,p,_,_,_,rfl,rfl,ON.of hp,cM,OT,fun t nt=>?_⟩;have s1:=aj (o:=.tup [.str Sn,.str Su,.str "number"]) nt;refine⟨d,ks,z,Su,t,[Sn,Su,"number"],b,i,rfl,hN.same s1,hm,M',.inr (ON.of ae),zk,fun t2 sq H2 s2 e2 e3=>?_⟩;refine⟨t2,_,rfl,ON.of e2,rfl,_,_,rfl,_,_,rfl,rfl,?_⟩;refine⟨_,rfl,rfl,_,rfl,bi zk ⟨_,rfl,_,rfl,OT,fun p4 n4=>?_⟩⟩;have s4:=aj (o:=.tup [.str Su,.ref sq]) n4;exact q _ _ ((s1.trans s2).trans s4) ⟨p4,.ref sq,rfl,ae,sq,rfl,s4 _ _ e3⟩
  |@cell e1 d1 h1=>
   obtain⟨p,u,rfl,hp,hu⟩:=hV;refine⟨_,rfl,p,_,_,_,rfl,rfl,ON.of hp,bH,rfl,_,rfl,bi zk ?_⟩;refine⟨_,rfl,p,_,_,_,rfl,rfl,ON.of hp,bH,rfl,_,rfl,bi zk ?_⟩;refine⟨_,rfl,p,_,_,_,rfl,rfl,ON.of hp,bH,rfl,_,rfl,bF (a_ rfl) ?_⟩;cases m with
   |zero=>simp[qG]at hD
   |succ m=>
    refine⟨_,rfl,_,rfl,p,_,_,_,rfl,rfl,ON.of hp,cM,d,ks,u,e1,d1,rfl,hN,M',hu,h1,by simp[qG]at hD;lia,fun u2 H2 s2 v2=>⟨OT,fun p4 n4=>?_⟩⟩;have s4:=aj (o:=.tup [.str "cell",u2]) n4;exact q _ _ (s2.trans s4) ⟨p4,u2,rfl,ae,v2.kt (av s4)⟩
  |@two o x y a b ho hx hy=>
   obtain⟨p,u,t,rfl,hp,hu,ht⟩:=hV;obtain⟨o1,o2,o3⟩:=Fc;refine⟨_,rfl,p,_,_,_,rfl,rfl,ON.of hp,bH,rfl,_,rfl,bi (b_ fun e=>o1 (V.str.inj e▸ho)) ?_⟩;refine⟨_,rfl,p,_,_,_,rfl,rfl,ON.of hp,bH,rfl,_,rfl,bi (b_ fun e=>o2 (V.str.inj e▸ho)) ?_⟩;refine⟨_,rfl,p,_,_,_,rfl,rfl,ON.of hp,bH,rfl,_,rfl,bi (b_ fun e=>o3 (V.str.inj e▸ho)) ?_⟩;cases m with
   |zero=>simp[qG]at hD
   |succ m=>
    have WW:qG x<=m/\qG y<=m:=by
     simp only[qG]at hD;lia
    refine⟨_,rfl,_,rfl,p,_,_,_,rfl,rfl,ON.of hp,cM,d,ks,u,x,a,rfl,hN,M',hu,hx,WW.1,fun u2 H2 s2 v2=>?_⟩;refine⟨_,rfl,p,_,_,_,rfl,rfl,ON.of (s2 _ _ hp),bH,_,rfl,_,rfl,_,rfl,p,_,_,_,rfl,rfl,ON.of (s2 _ _ hp),jO,d,ks,t,y,b,rfl,hN.same s2,M',ht.kt (av s2),hy,WW.2,fun u3 H3 s3 v3=>⟨OT,fun p4 n4=>?_⟩⟩;have s4:=aj (o:=.tup [.str o,u2,u3]) n4;exact q _ _ ((s2.trans s3).trans s4) ⟨p4,u2,u3,rfl,ae,v2.kt (av (s3.trans s4)),v3.kt (av s4)⟩
end
def Pk(H:Hp)(g:Sd)(v:V):Prop:=match g with
 |.cell a e=>∃p u t,v=.ref p/\H p=some (.tup [.str "cell",u,t])/\Qc H a u/\Qc H e t
 |.pl b n e=>∃p u t,v=.ref p/\H p=some (.tup [.str Sn,u,t])/\Qy H b n u/\Qc H e t
 |.mk b n e=>∃p u t,v=.ref p/\H p=some (.tup [.str Su,u,t])/\Qy H b n u/\Qc H e t
def Pk.kt(k:OZ H H'):∀{g:Sd}{v:V},Pk H g v->Pk H' g v
 |.cell _ _,_,⟨p,u,t,a,b,c,d⟩=>⟨p,u,t,a,k _ _ b,c.kt k,d.kt k⟩
 |.pl _ _ _,_,⟨p,u,t,a,b,c,d⟩=>⟨p,u,t,a,k _ _ b,c.kt k,d.kt k⟩
 |.mk _ _ _,_,⟨p,u,t,a,b,c,d⟩=>⟨p,u,t,a,k _ _ b,c.kt k,d.kt k⟩
inductive Fd(ks:List Ne):Gs->Sd->Prop
 |cell {a e:Ex} {x y:Ed}:uz ks a x->uz ks e y->Fd ks (.cell a e) (.cell x y)
 |pl {z:Str} {b:Bool} {n:Nat} {e:Ex} {y:Ed}:(z,(Sn:Str),b,n)∈ks->uz ks e y->Fd ks (.nm z e) (.pl b n y)
 |mk{z:Str}{b:Bool}{n:Nat}{e:Ex}{y:Ed}:(z,(Su:Str),b,n)∈ks->uz ks e y->Fd ks (.nm z e) (.mk b n y)
def Hn:Gs->Nat
 |.cell a e=>max (qG a) (qG e)
 |.nm _ e=>qG e
def Ry(H:Hp)(e:Ee)(v:V):Prop:=match e with
 |.w0 s=>∃p,v=.ref p/\H p=some (.tup [.str s])
 |.fault z=>∃p,v=.ref p/\H p=some (.tup [.str Sy,.str z])
 |.go s j=>∃p,v=.ref p/\H p=some (.tup [.str s,.int (j:Nat)])
def Ry.kt(k:OZ H H'):∀{g:Ee}{v:V},Ry H g v->Ry H' g v
 |.w0 _,_,⟨p,a,b⟩=>⟨p,a,k _ _ b⟩
 |.fault _,_,⟨p,a,b⟩=>⟨p,a,k _ _ b⟩
 |.go _ _,_,⟨p,a,b⟩=>⟨p,a,k _ _ b⟩
inductive Gz(ks:List Ne):En->Ee->Prop
 |w0 {s:Str}:s∈([S4,Tf,Tg]:Us)->Gz ks (.w0 s) (.w0 s)
 |fault (z:Str):Gz ks (.w1 Sy z) (.fault z)
 |go {s z:Str} {b:Bool} {n:Nat}:s∈([Ts,SH]:Us)->(z,(S2:Str),b,n)∈ks->Gz ks (.w1 s z) (.go s n)
def Ho:Tt->Str
 |.top _ _=>Ta
 |.pl _ _=>Sn
 |.mk _ _=>Su
def jR:Tt->Bool×Nat
 |.top b n=>(b,n)
 |.pl b n=>(b,n)
 |.mk b n=>(b,n)
inductive Q0(H:Hp)(t:Tt)(v:V):Prop
 |mk(p u:_):v=.ref p->H p=some (.tup [.str (Ho t),u])->Qy H (jR t).1 (jR t).2 u->Q0 H t v
def Q0.kt(k:OZ H H')(h:Q0 H g v):Q0 H' g v:=by obtain⟨p,u,a,b,c⟩:=h;exact ⟨p,u,a,k _ _ b,c.kt k⟩
inductive GA(ks:List Ne):Bool->Str->Tt->Prop
 |top {z:Str} {b:Bool} {n:Nat}:(z,(Sn:Str),b,n)∈ks->GA ks true z (.top b n)
 |pl {z:Str} {b:Bool} {n:Nat}:(z,(Sn:Str),b,n)∈ks->GA ks false z (.pl b n)
 |mk{z:Str}{b:Bool}{n:Nat}:(z,(Su:Str),b,n)∈ks->GA ks false z (.mk b n)
def Qw(H:Hp):Dd->V->Prop
 |.leaf s e,v=>∃p q us u,v=.ref p/\H p=some (.tup [.str "leaf",.ref q,u])/\H q=some (.tup us)/\Paired (fun v g=>Pk H g v) us s/\Ry H e u
 |.ite t y n,v=>∃p u a b,v=.ref p/\H p=some (.tup [.str Ub,u,a,b])/\Q0 H t u/\Qw H y a/\Qw H n b
def Qw.kt(k:OZ H H'):∀{b:Dd}{v:V},Qw H b v->Qw H' b v
 |.leaf _ _,_,⟨p,q,us,u,a,b,c,d,e⟩=>⟨p,q,us,u,a,k _ _ b,k _ _ c,bD (fun _ _ h=>Pk.kt k h) d,Ry.kt k e⟩
 |.ite _ _ _,_,⟨p,u,x,y,a,b,c,d,e⟩=>⟨p,u,x,y,a,k _ _ b,c.kt k,Qw.kt k d,Qw.kt k e⟩
inductive Fe(ks:List Ne):Bd->Dd->Prop
 |leaf {s:List Gs} {s':List Sd} {e:En} {e':Ee}:Paired (Fd ks) s s'->Gz ks e e'->Fe ks (.leaf s e) (.leaf s' e')
 |ite {t:Bool} {z:Str} {t':Tt} {y n:Bd} {y' n':Dd}:GA ks t z t'->Fe ks y y'->Fe ks n n'->Fe ks (.ite t z y n) (.ite t' y' n')
def Bf:Bd->Nat
 |.leaf _ _=>0
 |.ite _ _ y n=>max (Bf y) (Bf n)+1
def rL(m:Nat):Bd->Prop
 |.leaf s _=>(∀g∈s,Hn g<=m)/\s.length<=4
 |.ite _ _ y n=>rL m y/\rL m n
inductive pI(m:Nat)(vs:Uv)(H:Hp)(Q:VK)(Z3:XK):Prop
 |mk(d ks v g g':_):vs=[.ref d,v]->P3 H d ks->(ks.map (·.1)).Nodup->Qg H g v->Fd ks g g'->Hn g<=m->(∀u H',OM H H'->Pk H' g' u->Q u H')->pI m vs H Q Z3
inductive lV(vs:Uv)(H:Hp)(Q:VK)(Z3:XK):Prop
 |mk(d ks v t z t':_):vs=[.ref d,v]->P3 H d ks->(ks.map (·.1)).Nodup->P9 H t z v->GA ks t z t'->(∀u H',OM H H'->Q0 H' t' u->Q u H')->lV vs H Q Z3
inductive lW(vs:Uv)(H:Hp)(Q:VK)(Z3:XK):Prop
 |mk(d ks v e e':_):vs=[.ref d,v]->P3 H d ks->(ks.map (·.1)).Nodup->Rx H e v->Gz ks e e'->(∀u H',OM H H'->Ry H' e' u->Q u H')->lW vs H Q Z3
inductive nQ(m0:Nat)(m:Nat)(vs:Uv)(H:Hp)(Q:VK):Prop
 |mk(d ks v b b':_):vs=[.ref d,v]->P3 H d ks->(ks.map (·.1)).Nodup->Q3 H b v->Fe ks b b'->Bf b<=m->rL m0 b->(∀u H',OM H H'->Qw H' b' u->Q u H')->nQ m0 m vs H Q
def i7(m0:Nat):Nat->Sp
 |0=>jN
 |m+1=>fun vs H Q _=>nQ m0 m vs H Q
section
def Pp:az [Sz,TZ,Tq,"target",SE,"address",SY] [Sz,TZ] (ak tI):=cv zk
def zf(F:O0 K "set_of" "set_of" tI f fd)(NK:Fn P w K mg base "need_known" 1 [Sz,"name",Uc] (cX K))(EX:Fn P w K mg base "expression_of" n [Sz,"e"] (pH (m+1)))(hn:1<=n):OQ P w K mg base bQ (n+1) f fd [Sz,TZ] (pI m):=by
 have ZZ:=Pp
 walk_at "o"
 ·obtain⟨d,ks,v,g,g',rfl,hN,M',hV,hG,hD,q⟩:=h;have ME:OU 1 _:=hr.mono zo;refine⟨_,ac (df (pv 1) (cr rfl (aA (cq (i:=2) Pp.nd) (aA (cq (i:=3) Pp.nd) (aA (cq (i:=4) Pp.nd) br)))))
   (ac (aT (aq aX (pv 2) ai)
    (ac (bL (i:=5) Pp.nd (ax EX hr rfl (aa (pv 0) (aa (pv 3) ab))))
    (ag (aw (aK (aa ai (aa (pv 5) (aa (ax EX hr rfl (aa (pv 0) (aa (pv 4) ab))) ab))))))) aG)
   (ac (df (ax NK ME rfl (aa (pv 0) (aa (pv 3) (aa (aK (aa ai (aa ai ab))) ab)))) (cr rfl (aA (cq (i:=2) Pp.nd) (aA (cq (i:=6) Pp.nd) br))))
   (ag (aw (aK (aa (pv 2) (aa (pv 6) (aa (ax EX hr rfl (aa (pv 0) (aa (pv 4) ab))) ab)))))))),?_⟩
  cases hG with
  |@cell a e x y ha he=>
   obtain⟨p,u,t,rfl,hp,hu,ht⟩:=hV;have WW:qG a<=m/\qG e<=m:=by
    simp only[Hn]at hD;lia
   refine⟨_,rfl,p,_,rfl,ON.of hp,rfl,_,_,rfl,_,_,rfl,_,_,rfl,rfl,?_⟩;refine⟨_,rfl,rfl,_,rfl,bF (a_ rfl) ?_⟩;refine⟨_,rfl,_,rfl,d,ks,u,a,x,rfl,hN,M',hu,ha,WW.1,fun u2 H2 s2 v2=>?_⟩;refine⟨_,rfl,_,rfl,_,rfl,d,ks,t,e,y,rfl,hN.same s2,M',ht.kt (av s2),he,WW.2,fun u3 H3 s3 v3=>⟨OT,fun p4 n4=>?_⟩⟩;have s4:=aj (o:=.tup [.str "cell",u2,u3]) n4;exact q _ _ ((s2.trans s3).trans s4) ⟨p4,u2,u3,rfl,ae,v2.kt (av (s3.trans s4)),v3.kt (av s4)⟩
  |@pl z b i e y hm he=>
   obtain⟨p,t,rfl,hp,ht⟩:=hV;refine⟨_,rfl,p,_,rfl,ON.of hp,rfl,_,_,rfl,_,_,rfl,_,_,rfl,rfl,?_⟩;refine⟨_,rfl,rfl,_,rfl,bi zk ?_⟩;refine⟨_,rfl,_,rfl,OT,fun t1 nt=>?_⟩;have s1:=aj (o:=.tup [.str Sn,.str Su]) nt;refine⟨d,ks,z,Sn,t1,[Sn,Su],b,i,rfl,hN.same s1,hm,M',.inr (ON.of ae),zk,fun t2 sq H2 s2 e2 e3=>?_⟩;have MO:=s1.trans s2;refine⟨t2,_,rfl,ON.of e2,rfl,_,_,rfl,_,_,rfl,rfl,?_⟩;refine⟨_,rfl,_,rfl,_,rfl,_,rfl,d,ks,t,e,y,rfl,hN.same MO,M',ht.kt (av MO),he,hD,fun u3 H3 s3 v3=>⟨OT,fun p4 n4=>?_⟩⟩;have s4:=aj (o:=.tup [.str Sn,.ref sq,u3]) n4;exact q _ _ ((MO.trans s3).trans s4) ⟨p4,_,u3,rfl,ae,⟨sq,rfl,s4 _ _ (s3 _ _ e3)⟩,v3.kt (av s4)⟩
  |@mk z b i e y hm he=>
   obtain⟨p,t,rfl,hp,ht⟩:=hV;refine⟨_,rfl,p,_,rfl,ON.of hp,rfl,_,_,rfl,_,_,rfl,_,_,rfl,rfl,?_⟩;refine⟨_,rfl,rfl,_,rfl,bi zk ?_⟩;refine⟨_,rfl,_,rfl,OT,fun t1 nt=>?_⟩;have s1:=aj (o:=.tup [.str Sn,.str Su]) nt;refine⟨d,ks,z,Su,t1,[Sn,Su],b,i,rfl,hN.same s1,hm,M',.inr (ON.of ae),zk,fun t2 sq H2 s2 e2 e3=>?_⟩;have MO:=s1.trans s2;refine⟨t2,_,rfl,ON.of e2,rfl,_,_,rfl,_,_,rfl,rfl,?_⟩;refine⟨_,rfl,_,rfl,_,rfl,_,rfl,d,ks,t,e,y,rfl,hN.same MO,M',ht.kt (av MO),he,hD,fun u3 H3 s3 v3=>⟨OT,fun p4 n4=>?_⟩⟩;have s4:=aj (o:=.tup [.str Su,.ref sq,u3]) n4;exact q _ _ ((MO.trans s3).trans s4) ⟨p4,_,u3,rfl,ae,⟨sq,rfl,s4 _ _ (s3 _ _ e3)⟩,v3.kt (av s4)⟩
def Qb:az [Sz,Tn,SE,"name"] [Sz,Tn] (ak oK):=cv zk
def xj(F:O0 K "test_of" "test_of" oK f fd)(NK:Fn P w K mg base "need_known" 1 [Sz,"name",Uc] (cX K)):OQ P w K mg base bQ 2 f fd [Sz,Tn] lV:=by
 have ZZ:=Qb
 walk_at "o"
 ·obtain⟨d,ks,v,t,z,t',rfl,hN,M',⟨p,rfl,hp⟩,hG,q⟩:=h;refine⟨_,ac (df (pv 1) (cr rfl (aA (cq (i:=2) Qb.nd) (aA (cq (i:=3) Qb.nd) br))))
   (ac (aT (aq aX (pv 2) ai) (ag (aw (aK (aa ai (aa (aB aJ (ax NK hr rfl (aa (pv 0) (aa (pv 3) (aa (aK (aa ai ab)) ab)))) af) ab))))) aG)
   (ag (aw (ax NK hr rfl (aa (pv 0) (aa (pv 3) (aa (aK (aa ai (aa ai ab))) ab))))))),?_⟩
  refine⟨_,rfl,p,_,rfl,ON.of hp,rfl,_,_,rfl,_,_,rfl,rfl,?_⟩;cases hG with
  |@top _ b i hm=>
   refine⟨_,rfl,rfl,_,rfl,bF (a_ rfl) ?_⟩;refine⟨_,rfl,_,rfl,OT,fun t1 nt=>?_⟩;have s1:=aj (o:=.tup [.str Sn]) nt;refine⟨d,ks,z,Sn,t1,[Sn],b,i,rfl,hN.same s1,hm,M',.inr (ON.of ae),KB,fun t2 sq H2 s2 e2 e3=>?_⟩;refine⟨t2,_,_,_,rfl,rfl,ON.of e2,cM,OT,fun p4 n4=>?_⟩;have s4:=aj (o:=.tup [.str Ta,.ref sq]) n4;exact q _ _ ((s1.trans s2).trans s4) ⟨p4,_,rfl,ae,sq,rfl,s4 _ _ e3⟩
  |@pl _ b i hm=>
   refine⟨_,rfl,rfl,_,rfl,bi zk ?_⟩;refine⟨_,rfl,_,rfl,OT,fun t1 nt=>?_⟩;have s1:=aj (o:=.tup [.str Sn,.str Su]) nt;refine⟨d,ks,z,Sn,t1,[Sn,Su],b,i,rfl,hN.same s1,hm,M',.inr (ON.of ae),zk,fun t2 sq H2 s2 e2 e3=>?_⟩;exact q _ _ (s1.trans s2) ⟨t2,_,rfl,e2,sq,rfl,e3⟩
  |@mk _ b i hm=>
   refine⟨_,rfl,rfl,_,rfl,bi zk ?_⟩;refine⟨_,rfl,_,rfl,OT,fun t1 nt=>?_⟩;have s1:=aj (o:=.tup [.str Sn,.str Su]) nt;refine⟨d,ks,z,Su,t1,[Sn,Su],b,i,rfl,hN.same s1,hm,M',.inr (ON.of ae),zk,fun t2 sq H2 s2 e2 e3=>?_⟩;exact q _ _ (s1.trans s2) ⟨t2,_,rfl,e2,sq,rfl,e3⟩
def zg:az [Sz,"end"] [Sz,"end"] (ak tJ):=cv zk
def xk(F:O0 K "end_of" "end_of" tJ f fd)(NK:Fn P w K mg base "need_known" 1 [Sz,"name",Uc] (cX K)):OQ P w K mg base bQ 2 f fd [Sz,"end"] lW:=by
 have ZZ:=zg
 walk_at "o"
 ·obtain⟨d,ks,v,e,e',rfl,hN,M',⟨p,rfl,hp⟩,hG,q⟩:=h;refine⟨_,ac (aT (aq eA (aB aJ (pv 1) af) (aK (aa ai (aa ai ab))) rfl) (ag (aw (aK (aa (aB aJ (pv 1) af) (aa (aB aJ (aB aJ (ax NK hr rfl (aa (pv 0) (aa (aB aJ (pv 1) af) (aa (aK (aa ai ab)) ab)))) af) af) ab))))) aG)
   (ag (aw (pv 1))),?_⟩
  have ZV:∀z:Str,j7 (.str z) [.str Ts,.str SH]=([Ts,SH]:Us).contains z:=fun z=>dU z [Ts,SH];cases hG with
  |@w0 s hs=>
   have Ux:H p=some (.tup [.str s]):=hp;refine⟨_,rfl,p,_,_,_,rfl,rfl,ON.of Ux,bH,OT,fun t1 nt=>?_⟩;have s1:=aj (o:=.tup [.str Ts,.str SH]) nt;refine⟨t1,_,rfl,.inr (ON.of ae),rfl,rfl,_,rfl,bi ?_ ⟨_,rfl,q _ _ s1 ⟨p,rfl,s1 _ _ Ux⟩⟩⟩;show j7 (.str s) [.str Ts,.str SH]=false;rw[ZV];simp only[KH,KY,j_]at hs;rcases hs with rfl|rfl|rfl<;>decide +kernel
  |fault z=>
   have Ux:H p=some (.tup [.str Sy,.str z]):=hp;refine⟨_,rfl,p,_,_,_,rfl,rfl,ON.of Ux,bH,OT,fun t1 nt=>?_⟩;have s1:=aj (o:=.tup [.str Ts,.str SH]) nt;refine⟨t1,_,rfl,.inr (ON.of ae),rfl,rfl,_,rfl,bi ?_ ⟨_,rfl,q _ _ s1 ⟨p,rfl,s1 _ _ Ux⟩⟩⟩;show j7 (.str Sy) [.str Ts,.str SH]=false;decide +kernel
  |@go s z b i hs hm=>
   have Ux:H p=some (.tup [.str s,.str z]):=hp;refine⟨_,rfl,p,_,_,_,rfl,rfl,ON.of Ux,bH,OT,fun t1 nt=>?_⟩;have s1:=aj (o:=.tup [.str Ts,.str SH]) nt;refine⟨t1,_,rfl,.inr (ON.of ae),rfl,rfl,_,rfl,bF ?_ ?_⟩
   ·show j7 (.str s) [.str Ts,.str SH]=true;rw[ZV];exact Lg.mpr hs
   generalize aM H t1 (.tup [V.str Ts,.str SH])=H1 at*;refine⟨_,rfl,p,_,_,_,rfl,rfl,ON.of (s1 _ _ Ux),bH,_,rfl,_,rfl,p,_,_,_,rfl,rfl,ON.of (s1 _ _ Ux),cM,OT,fun t2 nt2=>?_⟩;have s2:=aj (o:=.tup [.str S2]) nt2;refine⟨d,ks,z,S2,t2,[S2],b,i,rfl,hN.same (s1.trans s2),hm,M',.inr (ON.of ae),KB,fun t3 sq H3 s3 e2 e3=>?_⟩;refine⟨t3,_,_,_,rfl,rfl,ON.of e2,cM,sq,_,_,_,rfl,rfl,ON.of e3,cM,OT,fun p4 n4=>?_⟩;exact q _ _ (((s1.trans s2).trans s3).trans (aj n4)) ⟨p4,rfl,ae⟩
def PM:az [Sz,Ui,Tn,"yes","sets"] [Sz,Ui] (ak km):=cv zk
def Kp:([TZ,Sz]:Us).Nodup:=by decide +kernel
def ia(F:O0 K "deed_of" "deed_of" km f fd)(B:Bl mg)(TO:Fn P w K mg base "test_of" 2 [Sz,Tn] lV)(EO:Fn P w K mg base "end_of" 2 [Sz,"end"] lW)(SO:Fn P w K mg base "set_of" n [Sz,TZ] (pI m0))(DO:Fn P w K mg base "deed_of" n [Sz,Ui] (i7 m0 m))(hn:2<=n):OQ P w K mg base bQ (n+1) f fd [Sz,Ui] (i7 m0 (m+1)):=by
 have ZZ:=PM
 walk_at "o"
 ·obtain⟨d,ks,v,b,b',rfl,hN,M',hV,hG,hD,hS,q⟩:=h;have MF:OU 2 _:=hr.mono zo;refine⟨_,ac (aT (aq aX (aB aJ (pv 1) af) ai)
    (ac (bL (i:=2) PM.nd (ax TO MF rfl (aa (pv 0) (aa (aB aJ (pv 1) af) ab))))
    (ac (bL (i:=3) PM.nd (ax DO hr rfl (aa (pv 0) (aa (aB aJ (pv 1) af) ab))))
    (ag (aw (aK (aa ai (aa (pv 2) (aa (pv 3) (aa (ax DO hr rfl (aa (pv 0) (aa (aB aJ (pv 1) af) ab))) ab))))))))) aG)
   (ac (bL (i:=4) PM.nd (aY bC (by rfl) B.tuple bG (aa (fk (N':=[TZ,Sz]) (ix:=[none,some 0]) (sc0:=ak km) (N:=[Sz,Ui,Tn,"yes","sets"]) rfl zk (kN (aB aJ (pv 1) af))
     (fun C' cl s H fp=>cq (i:=0) Kp) (fun _ _ _ _ _=>dQ) (fun C' cl s H fp=>ax SO hr rfl (aa (pv 1) (aa (pv 0) ab)))) ab)))
   (ag (aw (aK (aa ai (aa (pv 4) (aa (ax EO MF rfl (aa (pv 0) (aa (aB aJ (pv 1) af) ab))) ab))))))),?_⟩
  cases hG with
  |@ite t z t' y n' y' n'' ht hy Zw=>
   obtain⟨p,u,a,bb,rfl,hp,hu,ha,hb⟩:=hV;cases m with
   |zero=>simp[Bf]at hD
   |succ m=>
    have WW:Bf y<=m/\Bf n'<=m:=by
     simp only[Bf]at hD;lia
    refine⟨_,rfl,p,_,_,_,rfl,rfl,ON.of hp,bH,rfl,_,rfl,bF (a_ rfl) ?_⟩;refine⟨_,rfl,_,rfl,p,_,_,_,rfl,rfl,ON.of hp,cM,d,ks,u,t,z,t',rfl,hN,M',hu,ht,fun u1 H1 s1 v1=>?_⟩;refine⟨_,rfl,_,rfl,p,_,_,_,rfl,rfl,ON.of (s1 _ _ hp),jO,d,ks,a,y,y',rfl,hN.same s1,M',ha.kt (av s1),hy,WW.1,hS.1,fun u2 H2 s2 v2=>?_⟩;have MO:=s1.trans s2;refine⟨_,rfl,_,rfl,_,rfl,_,rfl,p,_,_,_,rfl,rfl,ON.of (MO _ _ hp),Hm,d,ks,bb,n',n'',rfl,hN.same MO,M',hb.kt (av MO),Zw,WW.2,hS.2,fun u3 H3 s3 v3=>⟨OT,fun p4 n4=>?_⟩⟩;have s4:=aj (o:=.tup [.str Ub,u1,u2,u3]) n4;exact q _ _ ((MO.trans s3).trans s4) ⟨p4,u1,u2,u3,rfl,ae,v1.kt (av (s2.trans (s3.trans s4))),v2.kt (av (s3.trans s4)),v3.kt (av s4)⟩
  |@leaf s s' e e' hs he=>
   obtain⟨p,qs,us,u,rfl,hp,hq,ML,hu⟩:=hV;have sz:(1000:Nat)<=sizeLine:=by decide
   refine⟨_,rfl,p,_,_,_,rfl,rfl,ON.of hp,bH,rfl,_,rfl,bi zk ?_⟩;refine⟨_,rfl,p,_,_,_,rfl,rfl,ON.of hp,cM,qs,rfl,⟨_,ON.of hq⟩,?_⟩;have l1:=ML.length;have l2:=hs.length;have l4:=hS.2;refine yx (K:=K) (a:=qs) (xs:=us) (fun i ys H'=>OM H H'/\ys.length=i/\i<=us.length/\Paired (fun v g=>Pk H' g v) ys (s'.take i)) ⟨OM.refl _,rfl,Lh _,.nil⟩ (fun i ys H' hi⟨a1,a2,a3,_⟩=>⟨ON.of (a1 _ _ hq),zo⟩) ?_ ?_
   ·rintro i x ys H1 hx ⟨s1,ly,hi,hys⟩;obtain⟨g,hg,XD⟩:=dB ML hx;obtain⟨g',U_,ZG⟩:=dB hs hg;have MP:=(Kx.mp hx).1;refine⟨⟨rfl,trivial⟩,eB ?_⟩;refine⟨_,rfl,_,rfl,d,ks,x,g,g',rfl,hN.same s1,M',XD.kt (av s1),ZG,hS.1 g (KQ hg),fun u2 H2 s2 v2=>?_⟩;refine Nx.mk MP ⟨s1.trans s2,by rw[Kz,ly];rfl,MP,?_⟩;rw[Lj,U_];exact eu (R:=fun v g=>Pk H2 g v) v2 (bD (R:=fun v g=>Pk H1 g v) (fun _ _ h=>h.kt (av s2)) hys)
   ·rintro ys H1 ⟨s1,ly,_,hys⟩ lq X1;rw[show us.length=s'.length by lia,K7]at hys;generalize zz:aM H1 lq _=H2;have s2:=(nw X1 zz).1;have e2:H2 lq=some (.lst ys):=(nw X1 zz).2;clear zz;refine⟨lq,_,rfl,.inl ⟨OO.of e2,fun t nt=>?_⟩⟩;generalize zz:aM H2 t _=H3;have s3:=(nw nt zz).1;have e3:H3 t=some (.tup ys):=(nw nt zz).2;clear zz;have VA:=(s1.trans s2).trans s3;refine⟨_,rfl,_,rfl,_,rfl,p,_,_,_,rfl,rfl,ON.of (VA _ _ hp),jO,d,ks,u,e,e',rfl,hN.same VA,M',hu.kt (av VA),he,fun u4 H4 s4 v4=>⟨OT,fun p5 n5=>?_⟩⟩;have s5:=aj (o:=.tup [.str "leaf",.ref t,u4]) n5;exact q _ _ ((VA.trans s4).trans s5) ⟨p5,t,ys,u4,rfl,ae,s5 _ _ (s4 _ _ e3),bD (R:=fun v g=>Pk H1 g v) (fun _ _ h=>h.kt (av (s2.trans (s3.trans (s4.trans s5))))) hys,v4.kt (av s5)⟩
end
def vY(zs:Us):List (cQ×V):=zs.map fun z=>(Sum.inr z,.bl true)
def DG:∀{zs:Us}{z:Str},z∉zs->bq (vY zs) (Sum.inr z)=none
 |[],_,_=>qZ
 |x::zs,z,h=>by
  unfold vY;rw[K2,cz]
  ·exact DG (fun m=>h (KM _ m))
  ·intro e;exact h (by rw[<-R3 e];exact KB)
inductive QC(H:Hp)(u:V)(x:Kn):Prop
 |mk(p tf b us:_):u=.ref p->H p=some (.tup [.str x.name,.ref tf,b])->H tf=some (.tup us)->Paired (Pc H) us x.fs->Qw H x.dd b->QC H u x
def QC.kt(k:OZ H H')(h:QC H u x):QC H' u x:=by obtain⟨p,tf,b,us,a,c,d,e,f⟩:=h;exact ⟨p,tf,b,us,a,k _ _ c,k _ _ d,bD (fun _ _ h=>h.kt k) e,f.kt k⟩
structure Ff(ks:List Ne)(x:Kn):Prop where
 nd:((ks++fN x.fs).map (·.1)).Nodup
 l3:x.fs.length<=3
 bn:Fe (ks++fN x.fs) x.bd x.dd
 b3:Bf x.bd<=3
 s3:rL 3 x.bd
inductive Fg(vs:Uv)(H:Hp)(Q:VK)(Z3:XK):Prop
 |mk(d tk us ks MJ:_):vs=[.ref d,.ref tk]->P3 H d ks->H tk=some (.tup us)->Paired (PR H) us MJ->(MJ.map Kn.name).Nodup->(∀x∈MJ,Ff ks x)->ks.length<=10->MJ.length<=8->(∀p Xu H',OM H H'->H p=none->H' p=some (.tup Xu)->Paired (QC H') Xu MJ->Q (.ref p) H')->Fg vs H Q Z3
structure NI(H:Hp)(MJ:List Kn)(ln lt:Ul)(i:Nat)(H':Hp):Prop where
 sm:OM H H'
 n1:H ln=none
 n2:H lt=none
 ne:ln≠lt
 ls:∃us,H' ln=some (.lst us)/\us.length=i/\Paired (QC H') us (MJ.take i)
 tk:H' lt=some (.dK (vY ((MJ.take i).map Kn.name)))
section
def QO:az [Sz,S5,"named","taken","name",Tp,Ui,To] [Sz,S5] (ak gK):=cv zk
def Hq(F:O0 K "kinds_named" "kinds_named" gK f fd)(B:Bl mg)(NW:Fn P w K mg base "names_with_fields" 2 [Sz,Tp] ze)(DO:Fn P w K mg base "deed_of" n [Sz,Ui] (i7 3 4))(hn:2<=n):OQ P w K mg base bQ (n+1) f fd [Sz,S5] Fg:=by
 have ZZ:=QO
 walk_at "o"
 ·obtain⟨d,tk,us,ks,MJ,rfl,hN,ht,hk,M',VZ,Yf,h8,q⟩:=h;have hu:=eo hr;have MF:OU 2 _:=hr.mono zo;have sz:(1000:Nat)<=sizeLine:=by decide
  refine⟨_,ac (bL (i:=2) QO.nd (aP ab))
   (ac (bL (i:=3) QO.nd rq)
   (ac (cc g_ rfl (kN (pv 1)) (cr rfl (aA (cq (i:=4) QO.nd) (aA (cq (i:=5) QO.nd) (aA (cq (i:=6) QO.nd) br))))
    (ac (aT (sL (yu hu (pv 4) (pv 3))) (ag bV) aG)
    (ac (gW hu (pv 3) (pv 4) fH rfl)
    (ac (bL (i:=7) QO.nd (ax DO hr rfl (aa (ax NW MF rfl (aa (pv 0) (aa (pv 5) ab))) (aa (pv 6) ab))))
    (ag (aQ (ci KU KS KR bv (pv 2) (aa (aK (aa (pv 4) (aa (pv 5) (aa (pv 7) ab)))) ab))))))))
   (ag (aw (aY bC (by rfl) B.tuple bG (aa (pv 2) ab)))))),?_⟩
  have lk:=hk.length;refine⟨OT,fun ln n1=>?_⟩;generalize zz:aM H ln _=H1;have⟨s1,e1⟩:=nw n1 zz;clear zz;refine fun lt n2=>?_;have s2:=aj (o:=.dK []) n2;have e2:(aM H1 lt (.dK [])) lt=some (.dK []):=ae;have I0:NI H MJ ln lt 0 (aM H1 lt (.dK [])):=⟨s1.trans s2,n1,s1.free n2,ao e1 n2,⟨[],s2 _ _ e1,rfl,.nil⟩,e2⟩;generalize aM H1 lt (.dK ([]:List (cQ×V)))=H2 at*;refine⟨_,rfl,tk,rfl,⟨_,ON.of (I0.sm _ _ ht)⟩,?_⟩;refine oo (K:=K) (a:=tk) (xs:=us) (fun i σ H'=>∃v4 v5 v6 v7:Option V,σ=[some (.ref d),some (.ref tk),some (.ref ln),some (.ref lt),v4,v5,v6,v7]/\NI H MJ ln lt i H') ⟨_,_,_,_,rfl,I0⟩ (fun i σ H' _⟨_,_,_,_,_,I⟩=>ON.of (I.sm _ _ ht)) ?_ ?_
  ·rintro i x σ H3 hx ⟨v4,v5,v6,v7,rfl,I⟩;obtain⟨y,hy,hK⟩:=dB hk hx;have MP:i<MJ.length:=(Kx.mp hy).1;have hyi:MJ[i]=y:=(Kx.mp hy).2;obtain⟨p,tf,b,fu,rfl,hp,W7,U',hb⟩:=hK;have Wv:MJ.take (i+1)=MJ.take i++[y]:=by rw[Lj,hy];rfl
   have YI:y∈MJ:=hyi▸Lo MP;have WT:y.name∉(MJ.take i).map Kn.name:=by
    intro hm;have e5:MJ=MJ.take i++(y::MJ.drop (i+1)):=by
     have:=(Ly i MJ).symm;rw[Lq MP,hyi]at this;exact this
    rw[e5,KJ,K2]at M';exact(Ms.mp M').2.2 _ hm _ KB rfl
   have hval:=DG WT;have g:Pj H3 lt (.str y.name) none:=by
    have:=Pj.k (k:=Sum.inr y.name) I.tk;rw[hval]at this;exact this
   refine⟨p,_,rfl,ON.of (I.sm _ _ hp),rfl,_,_,rfl,_,_,rfl,_,_,rfl,rfl,?_⟩;refine⟨_,rfl,_,rfl,lt,_,rfl,g,_,rfl,bP ?_⟩;have ltk:(vY ((MJ.take i).map Kn.name)).length<=8:=by
    unfold vY;rw[Ky,Ky,KG];lia
   refine⟨_,rfl,_,rfl,lt,_,rfl,P4.k (k:=Sum.inr y.name) I.tk zo,?_⟩;rw[rj _ hval];have et:vY ((MJ.take i).map Kn.name)++[(Sum.inr y.name,V.bl true)]=vY ((MJ.take (i+1)).map Kn.name):=by
    unfold vY;rw[Wv,KJ,KJ];rfl
   rw[et];obtain⟨WL,e3,l3,p3⟩:=I.ls;have k4:OZ H3 (aM H3 lt (.dK (vY ((MJ.take (i+1)).map Kn.name)))):=DF I.tk;have s4:OM H (aM H3 lt (.dK (vY ((MJ.take (i+1)).map Kn.name)))):=cj I.n2 I.sm;have e4:(aM H3 lt (.dK (vY ((MJ.take (i+1)).map Kn.name)))) ln=some (.lst WL):=by rw[au I.ne];exact e3
   have t4:(aM H3 lt (.dK (vY ((MJ.take (i+1)).map Kn.name)))) lt=some (.dK (vY ((MJ.take (i+1)).map Kn.name))):=ae;have p4:=bD (fun _ _ h=>QC.kt k4 h) p3;generalize aM H3 lt (.dK (vY ((MJ.take (i+1)).map Kn.name)))=H4 at*;have hN4:P3 H4 d ks:=let⟨kv2,a,b2⟩:=hN;⟨kv2,s4 _ _ a,bD (fun _ _ h=>h.kt (av s4)) b2⟩;refine⟨_,rfl,_,rfl,d,tf,fu,ks,y.fs,rfl,hN4,s4 _ _ W7,bD (fun _ _ h=>h.kt (av s4)) U',(VZ y YI).nd,by have:=(VZ y YI).l3;lia,fun d' H5 s5 W4 nm'=>?_⟩;have s45:=s4.trans s5;refine⟨_,rfl,d',ks++fN y.fs,b,y.bd,y.dd,rfl,nm',(VZ y YI).nd,hb.kt (av s45),(VZ y YI).bn,(VZ y YI).b3,(VZ y YI).s3,fun b' H6 s6 Ve=>?_⟩;have VS:=s5.trans s6;have s06:=s4.trans VS;refine⟨_,rfl,.inl ⟨rfl,_,OO.of (VS _ _ e4)⟩,_,rfl,_,rfl,_,rfl,OT,fun pt X0=>?_⟩;generalize zz:aM H6 pt _=H7;have⟨s7,ept⟩:=nw X0 zz;clear zz;have e7:=s7 _ _ (VS _ _ e4);have Wn:=s06.trans s7;refine⟨ln,_,_,rfl,rfl,e7,by rw[l3];lia,?_⟩;have k8:=vU (ys:=WL++[V.ref pt]) e7;have k47:OZ H4 H7:=av (VS.trans s7);refine⟨_,_,_,_,rfl,cj I.n1 Wn,I.n1,I.n2,I.ne,⟨WL++[.ref pt],ae,by simp[l3],?_⟩,?_⟩
   ·rw[Wv];refine eu ⟨pt,tf,b',fu,rfl,k8 _ _ ept,k8 _ _ (Wn _ _ W7),bD (fun _ _ h=>(h.kt (av Wn)).kt k8) U',(Ve.kt (av s7)).kt k8⟩ (bD (fun _ _ h=>(QC.kt k47 h).kt k8) p4)
   ·rw[au I.ne.symm];exact s7 _ _ (VS _ _ t4)
  ·rintro σ H3 ⟨v4,v5,v6,v7,rfl,I⟩;obtain⟨WL,e3,l3,p3⟩:=I.ls;rw[lk,K7]at p3;refine⟨_,rfl,ln,WL,rfl,.inl ⟨OO.of e3,fun p np=>?_⟩⟩;have s4:=aj (o:=.tup WL) np;exact q p WL _ (I.sm.trans s4) (I.sm.free np) ae (bD (fun _ _ h=>QC.kt (av s4) h) p3)
end
def dz(h:X.K=K)(hc:X.calm=true)(hg:GJ X es t)(hn:(assignEach es X.env).length=n:=by rfl)(UK:(assignEach es X.env).findIdx? (·.1)=none:=by rfl):PG X (.Tuple es k pos) (Eh K n t):=by
 subst h;exact cr hc hg hn UK
def Hr(vw vc vd vp vm vg:V)(pn pk:Ul):List (Str×V):=[(Sr,vw),(Sw,vc),(Sx,vd),(So,vp),(Ss,vm),(SS,vg),(S5,.ref pn),(SN,.ref pk)]
def Ju:Us:=[Sr,Sw,Sx,So,Ss,SS,S5,SN]
structure Tc(K:ZF)(C:Ul):Prop where
 cl:QH K C
 na:∀f∈Ju,O1 K C f
abbrev pJ:Stmt:=cu kj 0
inductive pK(C:Ul)(vs:Uv)(H:Hp)(Q:VK)(Z3:XK):Prop
 |mk(x dx vw vc vd vp vm vg pk us MJ:_):vs=[.ref x,vw,vc,vd,vp,vm,vg,.ref pk]->H x=some (.ins C dx [])->H pk=some (.tup us)->Paired (QC H) us MJ->MJ.length<=8->(∀pn H',H' x=some (.ins C dx (Hr vw vc vd vp vm vg pn pk))->H pn=none->H' pn=some (.tup (ay (MJ.map Kn.name)))->OS x H H'->Q .non H')->pK C vs H Q Z3
section
def Cb:az [Sm,Sr,Sw,Sx,So,Ss,SS,SN] [Sm,Sr,Sw,Sx,So,Ss,SS,SN] (ak pJ):=cv zk
def Fh:(["name",Tp,To]:Us).Nodup:=by decide +kernel
def zh(F:O0 K "__init__" "Table.__init__" pJ f fd)(T:Tc K C)(B:Bl mg):OQ P w K mg base bQ 1 f fd [Sm,Sr,Sw,Sx,So,Ss,SS,SN] (pK C):=by
 have ZZ:=Cb
 walk_at "o"
 ·obtain⟨x,dx,vw,vc,vd,vp,vm,vg,pk,us,MJ,rfl,hx,hk,hp,h8,q⟩:=h;have sz:(1000:Nat)<=sizeLine:=by decide
  refine⟨_,(ac (cC (pv 0) (pv 1) rfl)
   (ac (cC (pv 0) (pv 2) rfl)
   (ac (cC (pv 0) (pv 3) rfl)
   (ac (cC (pv 0) (pv 4) rfl)
   (ac (cC (pv 0) (pv 5) rfl)
   (ac (cC (pv 0) (pv 6) rfl)
   (ac (cC (pv 0) (aY bC (by rfl) B.tuple bG (aa (fk (N':=["name",Tp,To]) (ix:=[none,none,none]) (sc0:=ak pJ) (N:=[Sm,Sr,Sw,Sx,So,Ss,SS,SN]) rfl zk (kN (pv 7)) (fun C' cl s H fp=>dz (K:=K) (n:=3) rfl rfl (aA (cq (i:=0) Fh) (aA (cq (i:=1) Fh) (aA (cq (i:=2) Fh) br)))) (fun _ _ _ _ _=>dQ) (fun C' cl s H fp=>pv 0)) ab)) rfl)
   (ag (cC (pv 0) (pv 7) rfl))))))))),?_⟩
  have b0:OS x H H:=OS.refl _ _;refine⟨_,rfl,_,rfl,x,C,dx,_,rfl,hx,T.cl,T.na Sr zk,(by show 0<1000;decide),?_⟩;have e1:(aM H x (.ins C dx (aV Sr vw []))) x=some (.ins C dx (aV Sr vw [])):=ae;have b1:OS x H (aM H x (.ins C dx (aV Sr vw []))):=fun b o e nb=>by rw[au nb];exact b0 _ _ e nb
  generalize aM H x (.ins C dx (aV Sr vw []))=H1 at*;refine⟨_,rfl,_,rfl,x,C,dx,_,rfl,e1,T.cl,T.na Sw zk,(by show 1<1000;decide),?_⟩;have e2:(aM H1 x (.ins C dx (aV Sw vc (aV Sr vw [])))) x=some (.ins C dx (aV Sw vc (aV Sr vw []))):=ae;have b2:OS x H (aM H1 x (.ins C dx (aV Sw vc (aV Sr vw [])))):=fun b o e nb=>by rw[au nb];exact b1 _ _ e nb
  generalize aM H1 x (.ins C dx (aV Sw vc (aV Sr vw [])))=H2 at*;refine⟨_,rfl,_,rfl,x,C,dx,_,rfl,e2,T.cl,T.na Sx zk,(by show 2<1000;decide),?_⟩;have e3:(aM H2 x (.ins C dx (aV Sx vd (aV Sw vc (aV Sr vw []))))) x=some (.ins C dx (aV Sx vd (aV Sw vc (aV Sr vw [])))):=ae;have b3:OS x H (aM H2 x (.ins C dx (aV Sx vd (aV Sw vc (aV Sr vw []))))):=fun b o e nb=>by rw[au nb];exact b2 _ _ e nb
  generalize aM H2 x (.ins C dx (aV Sx vd (aV Sw vc (aV Sr vw []))))=H3 at*;refine⟨_,rfl,_,rfl,x,C,dx,_,rfl,e3,T.cl,T.na So zk,(by show 3<1000;decide),?_⟩;have e4:(aM H3 x (.ins C dx (aV So vp (aV Sx vd (aV Sw vc (aV Sr vw [])))))) x=some (.ins C dx (aV So vp (aV Sx vd (aV Sw vc (aV Sr vw []))))):=ae;have b4:OS x H (aM H3 x (.ins C dx (aV So vp (aV Sx vd (aV Sw vc (aV Sr vw [])))))):=fun b o e nb=>by rw[au nb];exact b3 _ _ e nb
  generalize aM H3 x (.ins C dx (aV So vp (aV Sx vd (aV Sw vc (aV Sr vw [])))))=H4 at*;refine⟨_,rfl,_,rfl,x,C,dx,_,rfl,e4,T.cl,T.na Ss zk,(by show 4<1000;decide),?_⟩;have e5:(aM H4 x (.ins C dx (aV Ss vm (aV So vp (aV Sx vd (aV Sw vc (aV Sr vw []))))))) x=some (.ins C dx (aV Ss vm (aV So vp (aV Sx vd (aV Sw vc (aV Sr vw [])))))):=ae;have b5:OS x H (aM H4 x (.ins C dx (aV Ss vm (aV So vp (aV Sx vd (aV Sw vc (aV Sr vw []))))))):=fun b o e nb=>by rw[au nb];exact b4 _ _ e nb
  generalize aM H4 x (.ins C dx (aV Ss vm (aV So vp (aV Sx vd (aV Sw vc (aV Sr vw []))))))=H5 at*;refine⟨_,rfl,_,rfl,x,C,dx,_,rfl,e5,T.cl,T.na SS zk,(by show 5<1000;decide),?_⟩;have e6:(aM H5 x (.ins C dx (aV SS vg (aV Ss vm (aV So vp (aV Sx vd (aV Sw vc (aV Sr vw [])))))))) x=some (.ins C dx (aV SS vg (aV Ss vm (aV So vp (aV Sx vd (aV Sw vc (aV Sr vw []))))))):=ae;have b6:OS x H (aM H5 x (.ins C dx (aV SS vg (aV Ss vm (aV So vp (aV Sx vd (aV Sw vc (aV Sr vw [])))))))):=fun b o e nb=>by rw[au nb];exact b5 _ _ e nb
  generalize aM H5 x (.ins C dx (aV SS vg (aV Ss vm (aV So vp (aV Sx vd (aV Sw vc (aV Sr vw [])))))))=H6 at*;have pkx:pk≠x:=by
   rintro rfl;rw[hk]at hx;cases hx
  have hk6:=b6 _ _ hk pkx;have k6:OZ H H6:=b6.kt hx;have hp6:=bD (fun _ _ h=>QC.kt k6 h) hp;have lk:=hp.length;refine⟨_,rfl,pk,rfl,⟨_,ON.of hk6⟩,?_⟩;refine yx (K:=K) (a:=pk) (xs:=us) (fun i ys H'=>H'=H6/\ys=ay ((MJ.take i).map Kn.name)) ⟨rfl,rfl⟩ (fun i ys H' hi⟨a1,a2⟩=>by
    subst a1 a2;refine⟨ON.of hk6,?_⟩;unfold ay;rw[Ky,Ky,KG];lia) ?_ ?_
  ·rintro i z ys H' hz ⟨rfl,rfl⟩;obtain⟨y,hy,p,tf,bb,fu,rfl,VG,_⟩:=dB hp6 hz;have MP:i<us.length:=(Kx.mp hz).1;refine⟨p,_,rfl,ON.of VG,rfl,_,_,rfl,_,_,rfl,_,_,rfl,rfl,trivial,eB ?_⟩;refine⟨_,rfl,Nx.mk MP ⟨rfl,?_⟩⟩;rw[Lj,hy];unfold ay;simp
  ·rintro ys H' ⟨rfl,rfl⟩ D hD;rw[lk,K7];generalize zz:aM H' D _=H7;have s7:=(nw hD zz).1;have e7:H7 D=some (.lst (ay (MJ.map Kn.name))):=(nw hD zz).2;clear zz;have x7:=s7 _ _ e6;refine⟨D,_,rfl,.inl ⟨OO.of e7,fun pn npn=>?_⟩⟩;generalize zz:aM H7 pn _=H8;have s8:=(nw npn zz).1;have e8:H8 pn=some (.tup (ay (MJ.map Kn.name))):=(nw npn zz).2;clear zz;have x8:=s8 _ _ x7;have b8:=(b6.same s7).same s8;have nH:H pn=none:=i5 (b6.same s7) x7 npn;have pnx:pn≠x:=by
    rintro rfl;rw[nH]at hx;cases hx
   refine⟨_,rfl,x,C,dx,_,rfl,x8,T.cl,T.na S5 zk,(by show 6<1000;decide),?_⟩;refine⟨_,rfl,_,rfl,x,C,dx,_,rfl,ae,T.cl,T.na SN zk,(by show 7<1000;decide),?_⟩;refine q pn _ ?_ nH ?_ ?_
   ·rw[ae];rfl
   ·rw[au pnx,au pnx];exact e8
   ·intro b o e nb;rw[au nb,au nb];exact b8 _ _ e nb
end
def iO(st:Str)(l:Us):List Ne:=l.mapIdx fun i z=>(z,st,false,i)
def lX(st:Str)(l:Us)(i:Nat):(iO st l)[i]?=l[i]?.map fun z=>(z,st,false,i):=by unfold iO;rw[List.getElem?_mapIdx]
def fK(st:Str)(l:Us):(iO st l).length=l.length:=by unfold iO;simp
def ik(D:Fm):List Ne:=iO Sn D.places++iO Su D.marks
def rM(D:Fm):V:=match D.gates with
 |[]=>.non
 |z::_=>.str z
structure pL(D:Fm):Prop where
 nd:((ik D).map (·.1)).Nodup
 gt:∀z∈D.gates,z∈D.marks
 g1:D.gates.length<=1
 kn:(D.kinds.map Kn.name).Nodup
 kf:∀x∈D.kinds,Ff (ik D) x
 p4:D.places.length<=4
 m3:D.marks.length<=3
 k8:D.kinds.length<=8
inductive Pd(C:Ul)(H:Hp)(v:V)(D:Fm):Prop
 |mk(a dx pp pm pn pk us:_):v=.ref a->H a=some (.ins C dx (Hr (.int D.width) (.int D.cells) (.int D.depth) (.ref pp) (.ref pm) (rM D) pn pk))->H pp=some (.tup (ay D.places))->H pm=some (.tup (ay D.marks))->H pn=some (.tup (ay (D.kinds.map Kn.name)))->H pk=some (.tup us)->Paired (QC H) us D.kinds->Pd C H v D
inductive Fi(C:Ul)(vs:Uv)(H:Hp)(Q:VK)(Z3:XK):Prop
 |mk(u D:_):vs=[u]->za H u D->pL D->(∀v H',OM H H'->Pd C H' v D->Q v H')->Fi C vs H Q Z3
def zi{A B:List Ne}{x:Ne}(h:((A++x::B).map (·.1)).Nodup):x.1∉A.map (·.1):=by
 rw[KJ,K2]at h;intro hm;exact(Ms.mp h).2.2 _ hm _ KB rfl
section
def Px:az ["form",Sr,Sw,Sx,So,Ss,"gates",S5,Sz,"i","name",SS,SN] ["form"] (ak gu):=cv zk
inductive zj(p:Ul)(D:Fm)(pp:Ul)(pm:Ul)(pg:Ul)(pk:Ul)(H:Hp)(σ:St)(H':Hp):Prop
 |mk(d:Ul)(v9 UR UM VQ:Option V):σ=[some (.ref p),some (.int D.width),some (.int D.cells),some (.int D.depth),some (.ref pp),some (.ref pm),some (.ref pg),some (.ref pk),some (.ref d),v9,UR,UM,VQ]->H d=none->OM H H'->P3 H' d (iO Sn D.places)->zj p D pp pm pg pk H σ H'
inductive zm(p:Ul)(D:Fm)(pp:Ul)(pm:Ul)(pg:Ul)(pk:Ul)(H:Hp)(σ:St)(H':Hp):Prop
 |mk(d:Ul)(v9 UR UM VQ:Option V):σ=[some (.ref p),some (.int D.width),some (.int D.cells),some (.int D.depth),some (.ref pp),some (.ref pm),some (.ref pg),some (.ref pk),some (.ref d),v9,UR,UM,VQ]->H d=none->OM H H'->P3 H' d (ik D)->zm p D pp pm pg pk H σ H'
inductive zn(p:Ul)(D:Fm)(pp:Ul)(pm:Ul)(pg:Ul)(pk:Ul)(H:Hp)(σ:St)(H':Hp):Prop
 |mk(d:Ul)(v9 UR UM VQ:Option V):σ=[some (.ref p),some (.int D.width),some (.int D.cells),some (.int D.depth),some (.ref pp),some (.ref pm),some (.ref pg),some (.ref pk),some (.ref d),v9,UR,UM,VQ]->UM=some (rM D)->H d=none->OM H H'->P3 H' d (ik D)->zn p D pp pm pg pk H σ H'
def Hs{f:Ul}{fd YZ:Ur}{n:Nat}(F:O0 K "table_of_form" "table_of_form" gu f fd)(B:Bl mg)(B3:Ca mg)(MK:Mk K C fi)(mgT:mg "Table"=some (.ref C))(IN:OQ P w K mg base bQ 1 fi YZ [Sm,Sr,Sw,Sx,So,Ss,SS,SN] (pK C))(bI:Pb K YZ [Sm,Sr,Sw,Sx,So,Ss,SS,SN] [])
  (AN:Fn P w K mg base "add_name" 1 [Sz,"name",Tq,SY] hZ) (NK:Fn P w K mg base "need_known" 1 [Sz,"name",Uc] (cX K)) (KN:Fn P w K mg base "kinds_named" n [Sz,S5] Fg) (hn:3<=n):OQ P w K mg base bQ (n+1) f fd ["form"] (Fi C):=by
 have ZZ:=Px
 walk_at "o"
 ·obtain⟨u,D,rfl,⟨p,pp,pm,pg,pk,us,rfl,hp,VG,V',hpg,WS,ML⟩,hD,q⟩:=h;have ME:OU 1 _:=hr.mono zo;have MF:OU 2 _:=hr.mono zo;have sz:(1000:Nat)<=sizeLine:=by decide
  refine⟨_,ac (df (pv 0) (cr rfl (aA (cq (i:=1) Px.nd) (aA (cq (i:=2) Px.nd) (aA (cq (i:=3) Px.nd) (aA (cq (i:=4) Px.nd) (aA (cq (i:=5) Px.nd) (aA (cq (i:=6) Px.nd) (aA (cq (i:=7) Px.nd) br)))))))))
   (ac (bL (i:=8) Px.nd rq)
   (bN (zj p D pp pm pg pk H) (cc g_ rfl (lB rfl B3.enumerate (aa (pv 4) ab)) (cr rfl (aA (cq (i:=9) Px.nd) (aA (cq (i:=10) Px.nd) br))) (ag (aQ (ax AN ME rfl (aa (pv 8) (aa (pv 10) (aa ai (aa (aK (aa ai (aa (pv 9) ab))) ab))))))))
   (bN (zm p D pp pm pg pk H) (cc g_ rfl (lB rfl B3.enumerate (aa (pv 5) ab)) (cr rfl (aA (cq (i:=9) Px.nd) (aA (cq (i:=10) Px.nd) br))) (ag (aQ (ax AN ME rfl (aa (pv 8) (aa (pv 10) (aa ai (aa (aK (aa ai (aa (pv 9) ab))) ab))))))))
   (ac (bL (i:=11) Px.nd gm)
   (bN (zn p D pp pm pg pk H) (cc g_ rfl (kN (pv 6)) (cq (i:=10) Px.nd) (ac (aQ (ax NK ME rfl (aa (pv 8) (aa (pv 10) (aa (aK (aa ai ab)) ab))))) (ag (bL (i:=11) Px.nd (pv 10)))))
   (ac (bL (i:=12) Px.nd (ax KN hr rfl (aa (pv 8) (aa (pv 7) ab))))
   (ag (aw (ke MK IN MF rfl mgT bI .nil iV (aa (pv 1) (aa (pv 2) (aa (pv 3) (aa (pv 4) (aa (pv 5) (aa (pv 11) (aa (pv 12) ab)))))))))))))))),?_⟩
  refine⟨_,rfl,p,_,rfl,ON.of hp,rfl,_,_,rfl,_,_,rfl,_,_,rfl,_,_,rfl,_,_,rfl,_,_,rfl,_,_,rfl,rfl,?_⟩;refine fun d nd=>?_;have s1:=aj (o:=.dK []) nd;have I1:P3 (aM H d (.dK [])) d []:=⟨[],ae,.nil⟩;generalize aM H d (.dK ([]:List (cQ×V)))=H1 at*;refine⟨?_,?_⟩
  ·rintro σ H2 ⟨d,v9,UR,UM,VQ,rfl,nd,s2,I2⟩;refine⟨?_,?_⟩
   ·rintro σ H3 ⟨d,v9,UR,UM,VQ,rfl,nd,s3,I3⟩;refine⟨?_,?_⟩
    ·rintro σ H4 ⟨d,v9,UR,UM,VQ,rfl,rfl,nd,s4,I4⟩;refine⟨_,rfl,_,rfl,d,pk,us,ik D,D.kinds,rfl,I4,s4 _ _ WS,bD (fun _ _ h=>PR.kt (av s4) h) ML,hD.kn,hD.kf,?_,hD.k8,fun p5 us5 H5 s5 n5 e5 k5=>?_⟩
     ·unfold ik;rw[Kz,fK,fK];have:=hD.p4;have:=hD.m3;lia
     have s05:=s4.trans s5;refine⟨_,rfl,_,rfl,_,rfl,_,rfl,_,rfl,_,rfl,_,rfl,fun x dx nx ndx ne=>?_⟩;refine⟨x,dx,_,_,_,_,_,_,p5,us5,D.kinds,rfl,ae,(cj nx (aj ndx)) _ _ e5,bD (fun _ _ h=>QC.kt (av (cj nx (aj ndx))) h) k5,hD.k8,fun pn H7 e7 npn epn b7=>⟨rfl,?_⟩⟩;have Zd:OM H5 H7:=fZ nx (cj nx (aj ndx)) b7;have Wn:=s05.trans Zd;exact q _ _ Wn ⟨x,dx,pp,pm,pn,p5,us5,rfl,e7,Wn _ _ VG,Wn _ _ V',epn,Zd _ _ e5,bD (fun _ _ h=>QC.kt (av Zd) h) k5⟩
    ·refine⟨_,rfl,pg,rfl,⟨_,ON.of (s3 _ _ hpg)⟩,?_⟩;refine oo (K:=K) (a:=pg) (xs:=ay D.gates) (fun i σ H'=>∃(v9 UR UM VQ:Option V),σ=[some (.ref p),some (.int D.width),some (.int D.cells),some (.int D.depth),some (.ref pp),some (.ref pm),some (.ref pg),some (.ref pk),some (.ref d),v9,UR,UM,VQ]/\UM=some (if i=0 then .non else rM D)/\OM H H'/\P3 H' d (ik D)) ⟨_,_,_,_,rfl,rfl,s3,I3⟩ (fun i σ H' _⟨_,_,_,_,_,_,s',_⟩=>ON.of (s' _ _ hpg)) ?_ ?_
     ·rintro i x σ Ha hx ⟨w9,Y9,Y8,Y7,rfl,rfl,sa,Ia⟩;have ZJ:=hD.g1;have US:=hD.gt;have Wd:i<(ay D.gates).length:=(Kx.mp hx).1;unfold ay at hx Wd;rw[Ky]at Wd;cases hgs:D.gates with
      |nil=>rw[hgs]at Wd;simp at Wd
      |cons z r=>
       rw[hgs]at hx Wd ZJ US;have hi0:i=0:=by simp only[KC]at ZJ Wd;lia
       subst hi0;have exz:x=.str z:=by simpa using hx.symm
       subst exz;have hzm:=US z KB;refine⟨_,rfl,_,rfl,OT,fun t nt=>?_⟩;have sb:=aj (o:=.tup [.str Su]) nt;obtain⟨gi,ZI⟩:=List.getElem?_of_mem hzm;refine⟨d,ik D,z,Su,t,[Su],false,gi,rfl,Ia.same sb,?_,hD.nd,.inr (ON.of ae),by simp,fun qq sl Hb sc eb _=>?_⟩
       ·exact K6 _ (KQ (by rw[lX,ZI];rfl))
       refine⟨_,rfl,_,_,_,_,rfl,?_,(sa.trans sb).trans sc,(Ia.same sb).same sc⟩;rw[e_ zo];unfold rM;rw[hgs]
     ·rintro σ Ha ⟨w9,Y9,Y8,Y7,rfl,rfl,sa,Ia⟩;refine⟨d,_,_,_,_,rfl,?_,nd,sa,Ia⟩;have XM:(ay D.gates).length=D.gates.length:=by unfold ay;rw[Ky]
      rw[XM];cases hgs:D.gates with
      |nil=>
       unfold rM;rw[hgs];rfl
      |cons z r=>rw[e_ (by simp)]
   ·refine⟨_,rfl,pm,rfl,⟨_,ON.of (s2 _ _ V')⟩,?_⟩;refine jA (K:=K) (l:=pm) (xs:=ay D.marks) (fun i σ H'=>∃(v9 UR UM VQ:Option V),σ=[some (.ref p),some (.int D.width),some (.int D.cells),some (.int D.depth),some (.ref pp),some (.ref pm),some (.ref pg),some (.ref pk),some (.ref d),v9,UR,UM,VQ]/\OM H H'/\P3 H' d (iO Sn D.places++(iO Su D.marks).take i)) ⟨_,_,_,_,rfl,s2,by simpa using I2⟩ (fun i σ H' _⟨_,_,_,_,_,s',_⟩=>ON.of (s' _ _ V')) ?_ ?_
    ·rintro i x σ Ha T1 hx nT ⟨w9,Y9,Y8,Y7,rfl,sa,Ia⟩;obtain⟨z,hz,rfl⟩:∃z,D.marks[i]?=some z/\x=.str z:=by
      unfold ay at hx;rw[KZ]at hx;cases hh:D.marks[i]? with
      |none=>rw[hh]at hx;cases hx
      |some z=>rw[hh]at hx;exact⟨z,rfl,(Lc hx).symm⟩
     have MP:i<D.marks.length:=(Kx.mp hz).1;have hzi:D.marks[i]=z:=(Kx.mp hz).2;have sb:=aj (o:=.tup [.int (i:Int),.str z]) nT;refine⟨T1,_,rfl,ON.of ae,rfl,_,_,rfl,_,_,rfl,rfl,?_⟩;refine⟨_,rfl,_,rfl,_,rfl,OT,fun t nt=>?_⟩;have sc:=aj (o:=.tup [.str "is",.int (i:Int)]) nt;have sac:=sa.trans (sb.trans sc);have VD:(iO Su D.marks)[i]?=some (z,(Su:Str),false,i):=by rw[lX,hz];rfl
     have WA:i<(iO Su D.marks).length:=by rw[fK];exact MP
     have Wv:(iO Su D.marks).take (i+1)=(iO Su D.marks).take i++[(z,(Su:Str),false,i)]:=by rw[Lj,VD];rfl
     refine⟨d,_,z,Su,t,false,i,rfl,Ia.same (sb.trans sc),ae,?_,?_,fun Hb Ib bb=>⟨_,_,_,_,rfl,fZ nd sac bb,?_⟩⟩
     ·have hh:=hD.nd;have e5:ik D=(iO Sn D.places++(iO Su D.marks).take i)++((z,(Su:Str),false,i)::(iO Su D.marks).drop (i+1)):=by
       have:=(Ly i (iO Su D.marks)).symm;rw[Lq WA,(Kx.mp VD).2]at this;unfold ik;rw[Le];exact d_ (iO Sn D.places++·) this
      rw[e5]at hh;exact zi hh
     ·simp only[Kz,fK,KG,K3];have:=hD.p4;have:=hD.m3;lia
     ·rw[Wv,<-Le];exact Ib
    ·rintro σ Ha ⟨w9,Y9,Y8,Y7,rfl,sa,Ia⟩;have XM:(ay D.marks).length=D.marks.length:=by unfold ay;rw[Ky]
     rw[XM,<-fK Su,K7]at Ia;exact⟨d,_,_,_,_,rfl,nd,sa,Ia⟩
  ·refine⟨_,rfl,pp,rfl,⟨_,ON.of (s1 _ _ VG)⟩,?_⟩;refine jA (K:=K) (l:=pp) (xs:=ay D.places) (fun i σ H'=>∃(v9 UR UM VQ:Option V),σ=[some (.ref p),some (.int D.width),some (.int D.cells),some (.int D.depth),some (.ref pp),some (.ref pm),some (.ref pg),some (.ref pk),some (.ref d),v9,UR,UM,VQ]/\OM H H'/\P3 H' d ([]++(iO Sn D.places).take i)) ⟨_,_,_,_,rfl,s1,by simpa using I1⟩ (fun i σ H' _⟨_,_,_,_,_,s',_⟩=>ON.of (s' _ _ VG)) ?_ ?_
   ·rintro i x σ Ha T1 hx nT ⟨w9,Y9,Y8,Y7,rfl,sa,Ia⟩;obtain⟨z,hz,rfl⟩:∃z,D.places[i]?=some z/\x=.str z:=by
     unfold ay at hx;rw[KZ]at hx;cases hh:D.places[i]? with
     |none=>rw[hh]at hx;cases hx
     |some z=>rw[hh]at hx;exact⟨z,rfl,(Lc hx).symm⟩
    have MP:i<D.places.length:=(Kx.mp hz).1;have hzi:D.places[i]=z:=(Kx.mp hz).2;have sb:=aj (o:=.tup [.int (i:Int),.str z]) nT;refine⟨T1,_,rfl,ON.of ae,rfl,_,_,rfl,_,_,rfl,rfl,?_⟩;refine⟨_,rfl,_,rfl,_,rfl,OT,fun t nt=>?_⟩;have sc:=aj (o:=.tup [.str "is",.int (i:Int)]) nt;have sac:=sa.trans (sb.trans sc);have VD:(iO Sn D.places)[i]?=some (z,(Sn:Str),false,i):=by rw[lX,hz];rfl
    have WA:i<(iO Sn D.places).length:=by rw[fK];exact MP
    have Wv:(iO Sn D.places).take (i+1)=(iO Sn D.places).take i++[(z,(Sn:Str),false,i)]:=by rw[Lj,VD];rfl
    refine⟨d,_,z,Sn,t,false,i,rfl,Ia.same (sb.trans sc),ae,?_,?_,fun Hb Ib bb=>⟨_,_,_,_,rfl,fZ nd sac bb,?_⟩⟩
    ·have hh:=hD.nd;have e5:ik D=([]++(iO Sn D.places).take i)++((z,(Sn:Str),false,i)::(iO Sn D.places).drop (i+1)++iO Su D.marks):=by
      have:=(Ly i (iO Sn D.places)).symm;rw[Lq WA,(Kx.mp VD).2]at this;unfold ik;rw[My,<-Le];exact d_ (·++iO Su D.marks) this
     rw[e5]at hh;exact zi hh
    ·simp only[Kz,fK,KG,K3];have:=hD.p4;have:=hD.m3;lia
    ·rw[Wv,<-Le];exact Ib
   ·rintro σ Ha ⟨w9,Y9,Y8,Y7,rfl,sa,Ia⟩;have XM:(ay D.places).length=D.places.length:=by unfold ay;rw[Ky]
    rw[XM,<-fK Sn,K7]at Ia;exact⟨d,_,_,_,_,rfl,nd,sa,by simpa using Ia⟩
end
end L3
namespace PySem
open Sem (wp)
section
open PySem.SeqAt
open PySem.AutoSeq1 (wpAny_loadPart')
open PySem.MeetsSeq PySem.MeetsSeq2 PySem.MeetsSeq3
def P5(f:Nat->β->Sem (ForInStep β))(I:Ut->β->Um->Prop)(Q:β->Um->Prop)
  (Vh:∀(x:Nat)(j':Ut)(b:β)(s:Um),I (x::j') b s->wpAny M A (f x b) (fun r s'=>match r with|.yield b'=>I j' b' s'|.done b'=>Q b' s') E s)
  (F':∀(b:β)(s:Um),I [] b s->Q b s) (r:Std.Legacy.Range) (b:β) (h:I (List.range' r.start r.size r.step) b s):wpAny M A (forIn r b f) Q E s:=by
 rw[Std.Legacy.Range.forIn_eq_forIn_range'];exact wpAny_forIn_list f I Q Vh F' _ b h
def Qe(l:Ul)(MQ:Array Uk)(n:Nat)(dd:Option Ul)(sl:Array (Option Uk))(x:Uk)(e:Uk->Bool)(j:Nat)(hj:j<MQ.size)(he:e MQ[j]=true)(hn:∀(m:Nat)(hm:m<MQ.size),m<j->e MQ[m]=false):
  Meets (Builtin.«tuple.index» ⟨[.ref l,x],[]⟩) (fun A R s=>s.heap.get? l=some {cls:=.type "tuple",dict:=dd,data:=.seq MQ n,slots:=sl}/\(∀y∈MQ,EqAt A.in1 s y x (e y))/\∀t k,R (.ok (.ret (.int j t))) {s with toks:=k}):=
 .of_wp fun prog w A R s h=>by
  obtain⟨hp,g,d,tk,os⟩:=s;obtain⟨hl,hb,h⟩:=h
  wp_walk using x_ hl,P5 _ (fun j' b s'=>b.1=none/\s'=⟨hp,g,d,tk,os⟩/\∃k,j'=List.range' k (MQ.size-k)/\k<=j) _
  case Vh=>
   rintro i j' b s' ⟨Ve,rfl,k,hr,hk⟩;have hz:MQ.size-k=(MQ.size-(k+1))+1:=by lia
   rw[hz,List.range'_succ]at hr;injection hr with h1 h2;subst h1;have hki:i<MQ.size:=by lia
   have hg:MQ[i]?=some MQ[i]:=by simp[hki]
   rw[hg];have hq:=hb MQ[i] (by simp);refine c_ (hq prog w _ _ ?_);by_cases hij:i=j
   ·subst hij;rw[he]
    wp_walk
    exact⟨_,rfl,h _ _⟩
   ·rw[hn i hki zo]
    wp_walk
    exact⟨rfl,rfl,i+1,h2,zo⟩
  case F'=>
   rintro b s' ⟨Ve,rfl,k,hr,hk⟩;have hz:MQ.size-k=(MQ.size-(k+1))+1:=by lia
   rw[hz,List.range'_succ]at hr;cases hr
  case h=>
   refine⟨rfl,rfl,0,?_,Lh _⟩;simp[Std.Legacy.Range.size]
end
end PySem
namespace L2
open PySem PySem.Spec PyProof.Rows
section
def rN:GX X "tuple.index" (fun x xs H Q=>∃(p:Ul)(zs:Us)(z:Str)(j:Nat),x=.ref p/\xs=[.str z]/\ON X.K H p (zs.map V.str)/\zs[j]?=some z/\(∀m,m<j->zs[m]?≠some z)/\Q (.int (j:Nat)) H):=by
 intro MC s σ H x xs v us Q I rx rv h;obtain⟨p,zs,z,j,rfl,rfl,hS,hj,hn,q⟩:=h;cases rx;obtain⟨u,rfl,ru⟩:=rv.one;obtain⟨f',r,pl,hz⟩:=I.tuple hS;have XF:(zs.map V.str).all gE=true:=by
  rw[MA];exact Li.mpr fun _ _=>rfl
 have MD:=r.length;rw[Ky]at MD;have Ws:j<zs.length:=(Kx.mp hj).1;have ev:∀m(hm:m<f'.toArray.size),qR (.str z) f'.toArray[m]=decide (zs[m]?=some z):=fun m hm=>by
  have hm':m<zs.length:=by rw[MD];simpa using hm
  obtain⟨w,ew,V6⟩:=r.get (i:=m) (x:=.str zs[m]) (by simp[hm']);have e2:f'.toArray[m]=w:=by
   have:=(Kx.mp ew).2;simpa using this
  rw[e2,sX V6 rfl,KF hm'];show sW (.str zs[m]) (.str z)=_;by_cases hh:zs[m]=z
  ·simp[hh,sW]
  ·simp[hh,sW]
 obtain⟨o,there,Fz,n,Zp⟩:=pl;cases o with
 |mk oc od odt UN=>
  dsimp only at Fz Zp;subst Fz Zp;refine R9 F.slot_tuple_index ⟨_,there,rfl⟩ F.entry_tuple_index (F.args_tuple_index_2 _ _) (Qe p f'.toArray n od UN u (qR (.str z)) j (by simpa[<-MD]using Ws) ?_ ?_) ⟨there,fun w hw=>fY ru rfl r XF w (by simpa using hw),fun t k=>⟨.int j,H,I.tok _,⟨t,rfl⟩,q⟩⟩
  ·rw[ev,hj];simp
  ·intro m hm hmj;rw[ev];simpa using hn m hmj
end
end L2
namespace PySem
section
open Sem (wp)
def O3:Bool->Heap->Ul->Ul->Nat->Prop
 |true,h,it,l,i=>h.IsTupleIter it l i
 |false,h,it,l,i=>h.IsListIter it l i
def O7:Bool->Heap->Ul->Array Uk->Prop
 |true,h,l,xs=>h.IsTuple l xs
 |false,h,l,xs=>h.IsList l xs
def O3.at(a:O3 b h it l i)(k:∀o,h.get? it=some o->h'.get? it=some o):O3 b h' it l i:=by
 cases b with
 |true=>exact(let⟨o,x,y⟩:=a;⟨o,k o x,y⟩:h'.IsTupleIter it l i)
 |false=>exact(let⟨o,x,y⟩:=a;⟨o,k o x,y⟩:h'.IsListIter it l i)
def O7.at(a:O7 b h l xs)(k:∀o,h.get? l=some o->h'.get? l=some o):O7 b h' l xs:=by
 cases b with
 |true=>exact(let⟨o,x,y⟩:=a;⟨o,k o x,y⟩:h'.IsTuple l xs)
 |false=>exact(let⟨o,x,y⟩:=a;⟨o,k o x,y⟩:h'.IsList l xs)
def O3.some(a:O3 b h it l i):∃o,h.get? it=some o/\∀v,o.data≠.cell v:=by
 cases b with
 |true=>exact(let⟨o,x,_,z⟩:=a;⟨o,x,fun v q=>by rw[z]at q;cases q⟩)
 |false=>exact(let⟨o,x,_,z⟩:=a;⟨o,x,fun v q=>by rw[z]at q;cases q⟩)
section
def Qa(Wa:O3 b s.heap it l i)(hl:O7 b s.heap l MQ)(hx:MQ[i]?=some x)
  (hQ:∀h',O3 b h' it l (i+1)->Heap.SameBut it s.heap h'->Q x {s with heap:=h'}):wpAny (model prog w) A (Builtin.SmallTypes.nextOf (.ref it)) Q E s:=by
 cases b with
 |true=>exact Pl Wa hl hx hQ
 |false=>exact wpAny_nextOf_list_item Wa hl hx hQ
def QX(hh:A.handled=none)(Wa:O3 b s.heap it l i)(hl:O7 b s.heap l MQ)(hx:MQ[i]?=none)
  (hE:∀h' e,Heap.ExtBut it s.heap h'->(∃o,h'.get? e=some o/\o.cls=.type "StopIteration")->E (.ref e) {s with heap:=h'}):wpAny (model prog w) A (Builtin.SmallTypes.nextOf (.ref it)) Q E s:=by
 cases b with
 |true=>exact nextOf_tuple_end hh Wa hl hx hE
 |false=>exact wpAny_nextOf_list_end hh Wa hl hx hE
def QZ{b1 b2:Bool}{z TI TO i1 i2 l1 l2:Ul}{k1 k2:Nat}{xs ys:Array Uk}{x y a b:Uk}{Q:Uk->Um->Prop}(D:ZipApart z TI TO i1 i2 l1 l2)(hz:IsZip s.heap z TI TO .none)(Vf:IsPair s.heap TI (.ref i1) (.ref i2))(VI:IsPair s.heap TO a b)
  (h1:O3 b1 s.heap i1 l1 k1) (h2:O3 b2 s.heap i2 l2 k2) (q1:O7 b1 s.heap l1 xs) (q2:O7 b2 s.heap l2 ys) (hx:xs[k1]?=some x) (hy:ys[k2]?=some y)
  (hQ:∀h',IsZip h' z TI TO (rawInt s.heap.objs.size)->IsPair h' TO x y->O3 b1 h' i1 l1 (k1+1)->O3 b2 h' i2 l2 (k2+1)->IsPair h' s.heap.objs.size x y->h'.objs.size=s.heap.objs.size+1->
   (∀c o,c≠z->c≠TO->c≠i1->c≠i2->s.heap.get? c=some o->h'.get? c=some o)->Q (.ref s.heap.objs.size) {s with heap:=h'}) :
  wpAny (model prog w) A (Builtin.«zip.__next__» ⟨[.ref z],[]⟩) (fun F' s'=>∃v,F'=.done (.ret v)/\Q v s') E s:=by
 show wpAny _ _ (field (.ref z) 2>>=_) _ _ s;refine c_ (p_ hz rfl (x:=.bool false) rfl ?_);show wpAny _ _ (field (.ref z) 3>>=_) _ _ s;refine c_ (p_ hz rfl (x:=.ref TI) rfl ?_);refine c_ (w_ Vf rfl ?_);show wpAny _ _ (Builtin.SmallTypes.ownedTupleIsFree (.ref z)>>=_) _ _ s;refine c_ ?_;unfold Builtin.SmallTypes.ownedTupleIsFree;refine c_ (p_ hz rfl (x:=.none) rfl (i_ ?_));show wpAny _ _ (rule "zip.__next__.owned-tuple-again" >>= _) _ _ s;refine c_ (wpAny_rule (c_ (p_ hz rfl (x:=.ref TO) rfl ?_)));show wpAny _ _ (setField (.ref z) 0 .ellipsis>>=_) _ _ s;refine c_ (v_ hz rfl (by simp) ?_);have u1:=l_ s.heap z (Obj.mapFields fun K'=>K'.setIfInBounds 0 Value.ellipsis);have z1:=m_ (Obj.mapFields fun K'=>K'.setIfInBounds 0 Value.ellipsis) hz rfl;generalize s.heap.update z (Obj.mapFields fun K'=>K'.setIfInBounds 0 Value.ellipsis)=YL at*;show wpAny _ _ (forIn [(Value.ref i1,0),(Value.ref i2,1)] _ _>>=_) _ _ _;refine c_ ?_;rw[D_];refine c_ ?_;show wpAny _ _ (Sem.onRaise _ _>>=_) _ _ _;refine c_ (wpAny_onRaise ?_);show wpAny _ _ (Builtin.SmallTypes.nextOf (.ref i1)>>=_) _ _ _;have e1:∀c o,c≠z->s.heap.get? c=some o->YL.get? c=some o:=fun c o n q=>(u1.2 c n).trans q;refine c_ (Qa (h1.at fun o q=>e1 _ o D.i1z q) (q1.at fun o q=>e1 _ o D.l1z q) hx fun Wq it2 u2=>i_ ?_);dsimp only at u2;have e2:∀c o,c≠z->c≠i1->s.heap.get? c=some o->Wq.get? c=some o:=fun c o n n' q=>(u2.2 c n').trans (e1 c o n q);have o2:Wq.get? TO=some {cls:=.type "tuple",data:=.seq #[a,b]}:=e2 _ _ D.TOz D.TOi1 VI;show wpAny _ _ (seqItems? (.ref TO)>>=_) _ _ _;refine c_ (w_ o2 rfl ?_);show wpAny _ _ (updateSeq TO _>>=_) _ _ _;refine c_ (wpAny_updateSeq o2 rfl ?_ OT (by show 2<=sizeLine+1;decide));refine c_ (wpAny_letGo (i_ ?_));have u3:=l_ Wq TO (Obj.mapSeq fun K'=>K'.setIfInBounds 0 x);have o3:=m_ (Obj.mapSeq fun K'=>K'.setIfInBounds 0 x) o2 rfl;generalize Wq.update TO (Obj.mapSeq fun K'=>K'.setIfInBounds 0 x)=YK at*;have e3:∀c o,c≠z->c≠TO->c≠i1->s.heap.get? c=some o->YK.get? c=some o:=fun c o n n' n2 q=>(u3.2 c n').trans (e2 c o n n2 q);show wpAny _ _ (forIn [(Value.ref i2,1)] _ _) _ _ _;rw[D_];refine c_ ?_;show wpAny _ _ (Sem.onRaise _ _>>=_) _ _ _;refine c_ (wpAny_onRaise ?_);show wpAny _ _ (Builtin.SmallTypes.nextOf (.ref i2)>>=_) _ _ _;refine c_ (Qa (h2.at fun o q=>e3 _ o D.i2z D.TOi2.symm D.i12.symm q) (q2.at fun o q=>e3 _ o D.l2z D.l2TO D.l2i1 q) hy fun hp4 it4 u4=>i_ ?_);dsimp only at u4;have o4:=(u4.2 TO D.TOi2).trans o3;show wpAny _ _ (seqItems? (.ref TO)>>=_) _ _ _;refine c_ (w_ o4 rfl ?_);show wpAny _ _ (updateSeq TO _>>=_) _ _ _;refine c_ (wpAny_updateSeq o4 rfl ?_ OT (by show 2<=sizeLine+1;decide));refine c_ (wpAny_letGo (i_ ?_));have u5:=l_ hp4 TO (Obj.mapSeq fun K'=>K'.setIfInBounds 1 y);have o5:=m_ (Obj.mapSeq fun K'=>K'.setIfInBounds 1 y) o4 rfl;generalize hp4.update TO (Obj.mapSeq fun K'=>K'.setIfInBounds 1 y)=hp5 at*;have e5:∀c o,c≠z->c≠TO->c≠i1->c≠i2->s.heap.get? c=some o->hp5.get? c=some o:=fun c o n n' n2 n3 q=>(u5.2 c n').trans ((u4.2 c n3).trans (e3 c o n n' n2 q));show wpAny _ _ (forIn [] _ _) _ _ _;rw[List.forIn_nil];refine i_ ?_;show wpAny _ _ (seqItems? (.ref TO)>>=_) _ _ _;refine c_ (w_ o5 rfl ?_);show wpAny _ _ (newTuple [x,y]>>=_) _ _ _;refine c_ (wpAny_newTuple ?_ OT);have sz:hp5.objs.size=s.heap.objs.size:=by rw[u5.1,u4.1,u3.1,u2.1,u1.1]
 have z5:hp5.get? z=some {cls:=.type "zip",data:=.fields #[.ellipsis,.bool false,.bool false,.ref TI,.ref TO]}:=(u5.2 z D.TOz.symm).trans ((u4.2 z D.i2z.symm).trans ((u3.2 z D.TOz.symm).trans ((u2.2 z D.i1z.symm).trans z1)));have z6:=KE {cls:=Value.type "tuple",data:=Data.seq [x,y].toArray} z5;have p6:=K9 hp5 (o:={cls:=Value.type "tuple",data:=Data.seq [x,y].toArray}) rfl;have k6:∀c o,hp5.get? c=some o->(hp5.push {cls:=Value.type "tuple",data:=Data.seq [x,y].toArray}).get? c=some o:=fun c o q=>KE _ q;have s6:(hp5.push {cls:=Value.type "tuple",data:=Data.seq [x,y].toArray}).objs.size=hp5.objs.size+1:=L9 ..;generalize hp5.push {cls:=Value.type "tuple",data:=Data.seq [x,y].toArray}=hp6 at*;have zs:z≠hp5.objs.size:=Lk (K1 z5);have t5:hp5.get? TO=some {cls:=.type "tuple",data:=.seq #[x,y]}:=o5;show wpAny _ _ (Builtin.SmallTypes.ownedTupleHandOut (.ref z) (.ref hp5.objs.size)>>=_) _ _ _;refine c_ ?_;show wpAny _ _ (setField (.ref z) 0 (rawInt hp5.objs.size)>>=_) _ _ _;refine c_ (v_ z6 rfl (by simp) ?_);have u7:=l_ hp6 z (Obj.mapFields fun K'=>K'.setIfInBounds 0 (rawInt hp5.objs.size));have z7:=m_ (Obj.mapFields fun K'=>K'.setIfInBounds 0 (rawInt hp5.objs.size)) z6 rfl;generalize hp6.update z (Obj.mapFields fun K'=>K'.setIfInBounds 0 (rawInt hp5.objs.size))=W_ at*;refine v_ z7 rfl (by simp[Obj.mapFields]) ?_;have u8:=l_ W_ z (Obj.mapFields fun K'=>K'.setIfInBounds 1 (.bool false));have z8:=m_ (Obj.mapFields fun K'=>K'.setIfInBounds 1 (.bool false)) z7 rfl;generalize W_.update z (Obj.mapFields fun K'=>K'.setIfInBounds 1 (.bool false))=hp8 at*;have k8:∀c o,c≠z->hp5.get? c=some o->hp8.get? c=some o:=fun c o n q=>(u8.2 c n).trans ((u7.2 c n).trans (k6 c o q));refine i_ ⟨_,rfl,?_⟩;show Q (.ref hp5.objs.size) _;rw[sz]at p6 z8 zs s6⊢;refine hQ hp8 z8 (k8 _ _ D.TOz t5) ?_ ?_ ((u8.2 _ zs.symm).trans ((u7.2 _ zs.symm).trans p6)) (by rw[u8.1,u7.1,s6]) fun c o n1 n2 n3 n4 q=>k8 c o n1 (e5 c o n1 n2 n3 n4 q)
 ·refine it2.at fun o q=>k8 _ o D.i1z ?_;exact(u5.2 _ D.TOi1.symm).trans ((u4.2 _ D.i12).trans ((u3.2 _ D.TOi1.symm).trans q))
 ·refine it4.at fun o q=>k8 _ o D.i2z ?_;exact(u5.2 _ D.TOi2.symm).trans q
def Q9(hh:A.handled=none)(D:ZipApart z TI TO i1 i2 l1 l2)(hz:IsZip s.heap z TI TO .none)(Vf:IsPair s.heap TI (.ref i1) (.ref i2))(VI:IsPair s.heap TO a b)
  (h1:O3 b1 s.heap i1 l1 k1) (h2:O3 b2 s.heap i2 l2 k2) (q1:O7 b1 s.heap l1 xs) (q2:O7 b2 s.heap l2 ys) (hx:xs[k1]?=none)
  (hE:∀h' e,(∀c o,c≠z->c≠TO->c≠i1->c≠i2->s.heap.get? c=some o->h'.get? c=some o)->(∃o,h'.get? e=some o/\o.cls=.type "StopIteration")->E (.ref e) {s with heap:=h'}) :
  wpAny (model prog w) A (Builtin.«zip.__next__» ⟨[.ref z],[]⟩) Q E s:=by
 show wpAny _ _ (field (.ref z) 2>>=_) _ _ s;refine c_ (p_ hz rfl (x:=.bool false) rfl ?_);show wpAny _ _ (field (.ref z) 3>>=_) _ _ s;refine c_ (p_ hz rfl (x:=.ref TI) rfl ?_);refine c_ (w_ Vf rfl ?_);show wpAny _ _ (Builtin.SmallTypes.ownedTupleIsFree (.ref z)>>=_) _ _ s;refine c_ ?_;unfold Builtin.SmallTypes.ownedTupleIsFree;refine c_ (p_ hz rfl (x:=.none) rfl (i_ ?_));show wpAny _ _ (rule "zip.__next__.owned-tuple-again" >>= _) _ _ s;refine c_ (wpAny_rule (c_ (p_ hz rfl (x:=.ref TO) rfl ?_)));show wpAny _ _ (setField (.ref z) 0 .ellipsis>>=_) _ _ s;refine c_ (v_ hz rfl (by simp) ?_);have u1:=l_ s.heap z (Obj.mapFields fun K'=>K'.setIfInBounds 0 Value.ellipsis);have z1:=m_ (Obj.mapFields fun K'=>K'.setIfInBounds 0 Value.ellipsis) hz rfl;generalize s.heap.update z (Obj.mapFields fun K'=>K'.setIfInBounds 0 Value.ellipsis)=YL at*;show wpAny _ _ (forIn [(Value.ref i1,0),(Value.ref i2,1)] _ _>>=_) _ _ _;refine c_ ?_;rw[D_];refine c_ ?_;show wpAny _ _ (Sem.onRaise _ _>>=_) _ _ _;refine c_ (wpAny_onRaise ?_);show wpAny _ _ (Builtin.SmallTypes.nextOf (.ref i1)>>=_) _ _ _;have e1:∀c o,c≠z->s.heap.get? c=some o->YL.get? c=some o:=fun c o n q=>(u1.2 c n).trans q;refine c_ (QX hh (h1.at fun o q=>e1 _ o D.i1z q) (q1.at fun o q=>e1 _ o D.l1z q) hx fun Wq e u2 ex=>?_);dsimp only at u2;obtain⟨ox,hox,cx⟩:=ex;have z2:=u2 _ _ D.i1z.symm z1;refine v_ z2 rfl (by simp[Obj.mapFields]) ?_;have u3:=l_ Wq z (Obj.mapFields fun K'=>K'.setIfInBounds 0 .none);have ez:e≠z:=by
  rintro rfl;rw[hox]at z2;cases z2;have cx':Value.type "zip"=Value.type "StopIteration":=cx;injection cx' with q;exact absurd q zd
 generalize Wq.update z (Obj.mapFields fun K'=>K'.setIfInBounds 0 .none)=YK at*;exact hE YK e (fun c o n1 n2 n3 n4 q=>(u3.2 c n1).trans (u2 c o n3 (e1 c o n1 q))) ⟨ox,(u3.2 e ez).trans hox,cx⟩
end
end
open Sem (wp)
open PySem.Spec PyProof.Rows
def Rr(b:Bool)(l:Ul):Obj:={cls:=.type (if b then "tuple_iterator" else "list_iterator"),data:=.fields #[.ref l,.int 0 0]}
def zB(h:Heap)(b1 b2:Bool)(l1 l2:Ul):Heap:=((((h.push (Rr b1 l1)).push (Rr b2 l2)).push {cls:=.type "tuple",data:=.seq #[.ref h.objs.size,.ref (h.objs.size+1)]}).push {cls:=.type "tuple",data:=.seq #[.none,.none]}).push
 {cls:=.type "zip",data:=.fields #[.none,.bool false,.bool false,.ref (h.objs.size+2),.ref (h.objs.size+3)]}
def QT{prog:Uo}{w:Up}{A:Uq}{E:Uk->Um->Prop}{s:Um}{b:Bool}{l:Ul}{MQ:Array Uk}{Q:Uk->Um->Prop}(h:O7 b s.heap l MQ)(hQ:Q (.ref s.heap.objs.size) {s with heap:=s.heap.push (Rr b l)}):wpAny (model prog w) A (pyIter (.ref l)) Q E s:=by
 cases b with
 |true=>exact I_ h hQ
 |false=>exact R_ h hQ
def Ri(b1 b2:Bool)(l1 l2:Ul)(xs ys:Array Uk):Meets (Builtin.«zip.__new__» ⟨[.type "zip",.ref l1,.ref l2],[]⟩) (fun _ R s=>
  O7 b1 s.heap l1 xs/\O7 b2 s.heap l2 ys/\R (.ok (.ret (.ref (s.heap.objs.size+4)))) {s with heap:=zB s.heap b1 b2 l1 l2}):=
 .of_wp fun prog w A R s Xr=>by
  rcases s with⟨hp,gs,dr,tk,sys⟩;obtain⟨q1,q2,WD⟩:=Xr;have under:=sub_zip;have i1:=fun{A:Uq}{E Q}=>@QT prog w A E ⟨hp,gs,dr,tk,sys⟩ b1 l1 xs Q q1;have i2:=fun{A:Uq}{E Q}=>@QT prog w A E ⟨hp.push (Rr b1 l1),gs,dr,tk,sys⟩ b2 l2 ys Q (q2.at fun o q=>KE _ q)
  wp_walk using i1,i2
  refine⟨_,rfl,?_⟩;have sz:∀(h:Heap)o,(h.push o).objs.size=h.objs.size+1:=fun _ _=>L9 ..;simp only[zB]at WD;simp only[sz];exact WD
variable{xs ys:Array Uk}{l1 l2:Ul}{s:Um}
def Ru{prog:Uo}{w:Up}{A:Uq}{E:Uk->Um->Prop}{b1 b2:Bool}{Q:Uk->Um->Prop}(q1:O7 b1 s.heap l1 xs)(q2:O7 b2 s.heap l2 ys)
  (h:∀h',IsZip h' (s.heap.objs.size+4) (s.heap.objs.size+2) (s.heap.objs.size+3) .none->IsPair h' (s.heap.objs.size+2) (.ref s.heap.objs.size) (.ref (s.heap.objs.size+1))->IsPair h' (s.heap.objs.size+3) .none .none->O3 b1 h' s.heap.objs.size l1 0->O3 b2 h' (s.heap.objs.size+1) l2 0->
   (∀c o,s.heap.get? c=some o->h'.get? c=some o)->Q (.ref (s.heap.objs.size+4)) {s with heap:=h'}):wpAny (model prog w) A (call (.type "zip") [.ref l1,.ref l2]) Q E s:=by
 have sz:∀(h:Heap)o,(h.push o).objs.size=h.objs.size+1:=fun _ _=>L9 ..;have g0:∀(h:Heap)(o:Obj)(n:Nat),h.objs.size=n->o.isFreed=false->(h.push o).get? n=some o:=fun h o n e f=>e▸K9 h f;have a1:IsZip (zB s.heap b1 b2 l1 l2) (s.heap.objs.size+4) (s.heap.objs.size+2) (s.heap.objs.size+3) .none:=g0 _ _ _ (by simp only[sz]) rfl;have a2:IsPair (zB s.heap b1 b2 l1 l2) (s.heap.objs.size+2) (.ref s.heap.objs.size) (.ref (s.heap.objs.size+1)):=KE _ (KE _ (g0 _ _ _ (by simp only[sz]) rfl));have a3:IsPair (zB s.heap b1 b2 l1 l2) (s.heap.objs.size+3) .none .none:=KE _ (g0 _ _ _ (by simp only[sz]) rfl);have f0:∀b l,(Rr b l).isFreed=false:=fun _ _=>rfl;have a4:(zB s.heap b1 b2 l1 l2).get? s.heap.objs.size=some (Rr b1 l1):=KE _ (KE _ (KE _ (KE _ (g0 _ _ _ rfl (f0 _ _)))));have a5:(zB s.heap b1 b2 l1 l2).get? (s.heap.objs.size+1)=some (Rr b2 l2):=KE _ (KE _ (KE _ (g0 _ _ _ (by simp only[sz]) (f0 _ _))));have a6:∀c o,s.heap.get? c=some o->(zB s.heap b1 b2 l1 l2).get? c=some o:=fun c o q=>KE _ (KE _ (KE _ (KE _ (KE _ q))));have ib:∀(b:Bool)(h:Heap)(a l:Ul),h.get? a=some (Rr b l)->O3 b h a l 0:=fun b h a l q=>by
  cases b with
  |true=>exact⟨_,q,rfl,rfl⟩
  |false=>exact⟨_,q,rfl,rfl⟩
 refine callType_new F.called_zip zd (F.typeCall_zip_2 _ _) (F.newCall_zip_2 _ _) (fun x=>F.args_object_init_3 x _ _) F.entry_zip_new (Ri b1 b2 l1 l2 xs ys) ⟨q1,q2,?_⟩;exact⟨⟨_,a1,rfl⟩,h _ a1 a2 a3 (ib _ _ _ _ a4) (ib _ _ _ _ a5) a6⟩
def PY{prog:Uo}{w:Up}{A:Uq}{E:Uk->Um->Prop}{b1 b2:Bool}{z TI TO i1 i2 l1 l2:Ul}{k1 k2:Nat}{xs ys:Array Uk}{x y a b:Uk}{Q:Option Uk->Um->Prop}(D:ZipApart z TI TO i1 i2 l1 l2)(hz:IsZip s.heap z TI TO .none)(Vf:IsPair s.heap TI (.ref i1) (.ref i2))(VI:IsPair s.heap TO a b)
  (h1:O3 b1 s.heap i1 l1 k1) (h2:O3 b2 s.heap i2 l2 k2) (q1:O7 b1 s.heap l1 xs) (q2:O7 b2 s.heap l2 ys) (hx:xs[k1]?=some x) (hy:ys[k2]?=some y)
  (hQ:∀h',IsZip h' z TI TO (rawInt s.heap.objs.size)->IsPair h' TO x y->O3 b1 h' i1 l1 (k1+1)->O3 b2 h' i2 l2 (k2+1)->IsPair h' s.heap.objs.size x y->h'.objs.size=s.heap.objs.size+1->
   (∀c o,c≠z->c≠TO->c≠i1->c≠i2->s.heap.get? c=some o->h'.get? c=some o)->Q (some (.ref s.heap.objs.size)) {s with heap:=h'}):wpAny (model prog w) A (pyNext (.ref z)) Q E s:=by
 have hT:s.TypeIs (.ref z) "zip":=⟨_,hz,rfl⟩;unfold pyNext;refine c_ (wpAny_attempt (r_ (name:=Str.ofString "__next__") hT A_ (F_ A_ hT PySem.F.entry_zip_next ?_ (PySem.F.args_zip_next_1 _))));refine QZ (A:=A.in1) D hz Vf VI h1 h2 q1 q2 hx hy fun h' c1 c2 c3 c4 c5 c6 c7=>?_;exact i_ (hQ h' c1 c2 c3 c4 c5 c6 c7)
def P6{prog:Uo}{w:Up}{A:Uq}{E:Uk->Um->Prop}{b1 b2:Bool}{z TI TO i1 i2 l1 l2:Ul}{k1 k2:Nat}{xs ys:Array Uk}{a b:Uk}{Q:Option Uk->Um->Prop}(hh:A.handled=none)(D:ZipApart z TI TO i1 i2 l1 l2)(hz:IsZip s.heap z TI TO .none)(Vf:IsPair s.heap TI (.ref i1) (.ref i2))(VI:IsPair s.heap TO a b)
  (h1:O3 b1 s.heap i1 l1 k1) (h2:O3 b2 s.heap i2 l2 k2) (q1:O7 b1 s.heap l1 xs) (q2:O7 b2 s.heap l2 ys) (hx:xs[k1]?=none)
  (hQ:∀h',(∀c o,c≠z->c≠TO->c≠i1->c≠i2->s.heap.get? c=some o->h'.get? c=some o)->Q none {s with heap:=h'}):wpAny (model prog w) A (pyNext (.ref z)) Q E s:=by
 have hT:s.TypeIs (.ref z) "zip":=⟨_,hz,rfl⟩;unfold pyNext;refine c_ (wpAny_attempt (r_ (name:=Str.ofString "__next__") hT A_ (F_ A_ hT PySem.F.entry_zip_next ?_ (PySem.F.args_zip_next_1 _))));refine Q9 (A:=A.in1) (show A.in1.handled=none from hh) D hz Vf VI h1 h2 q1 q2 hx fun h' e k ex=>?_;obtain⟨o,ho,hc⟩:=ex;refine c_ (wpAny_isInstance (T:="StopIteration") (b:=true) ⟨o,ho,hc⟩ isSubtype_stop ?_);exact i_ (hQ _ k)
end PySem
namespace L2
open PySem PySem.Spec PyProof.Rows
def xm(K:ZF):Bool->Hp->Ul->Uv->Prop
 |true=>ON K
 |false=>OO K
def OR.seqB(I:OR X MC σ H s)(h:xm X.K b H l xs):∃f',OV xs f'/\O7 b s.heap l f'.toArray:=by
 cases b with
 |true=>exact(let⟨f',r,p,_⟩:=I.tuple h;let⟨o,a,b,n,c⟩:=p;⟨f',r,o,a,b,n,c⟩)
 |false=>exact(let⟨f',r,p,_⟩:=I.list h;⟨f',r,p.isList⟩)
def OR.seqB_inj(I:OR X MC σ H s)(h:xm X.K b H l xs)(h':xm X.K b H l ys):xs=ys:=by
 cases b with
 |true=>exact I.tuple_inj h h'
 |false=>exact I.list_inj h h'
def rO(a:O7 b h l xs):l<h.objs.size:=by
 cases b with
 |true=>exact(let⟨_,e,_⟩:=a;K1 e)
 |false=>exact(let⟨_,e,_⟩:=a;K1 e)
def Fj(K:ZF)(b1 b2:Bool)(l1 l2:Ul):It:=
 ⟨fun i H=>∃xs ys x y,xm K b1 H l1 xs/\xm K b2 H l2 ys/\xs[i]?=some x/\ys[i]?=some y,
  fun i H v H'=>∃T x y,v=.ref T/\H T=none/\H'=aM H T (.tup [x,y])/\(∀xs,xm K b1 H l1 xs->xs[i]?=some x)/\∀ys,xm K b2 H l2 ys->ys[i]?=some y,
  fun i H=>∃xs ys,xm K b1 H l1 xs/\xm K b2 H l2 ys/\xs.length<=i⟩
def xn{b1 b2:Bool}{P:Uo}{w:Up}{K:ZF}{UP:List Expr}{kt:Nat}{tp:Pos}{z TI TO i1 i2 l1 l2:Ul}(D:ZipApart z TI TO i1 i2 l1 l2):
  on P w K (.Tuple UP kt tp) (Fj K b1 b2 l1 l2) [z,TI,TO,i1,i2] z (fun i h=>IsZip h z TI TO .none/\IsPair h TI (.ref i1) (.ref i2)/\(∃a b,IsPair h TO a b)/\O3 b1 h i1 l1 i/\O3 b2 h i2 l2 i) where
 mem:=by simp
 obj:=fun i h st b hb=>by
  obtain⟨hz,Vf,⟨a,c,VI⟩,i1',i2'⟩:=st;obtain⟨o1,h1,d1⟩:=i1'.some;obtain⟨o2,h2,d2⟩:=i2'.some;simp at hb;rcases hb with rfl|rfl|rfl|rfl|rfl
  ·exact⟨_,hz,fun v q=>by cases q⟩
  ·exact⟨_,Vf,fun v q=>by cases q⟩
  ·exact⟨_,VI,fun v q=>by cases q⟩
  ·exact⟨_,h1,fun v q=>d1 v q⟩
  ·exact⟨_,h2,fun v q=>d2 v q⟩
 keep:=fun i h h' st k=>by
  obtain⟨hz,Vf,⟨a,c,VI⟩,h1,h2⟩:=st;exact⟨k z (by simp) _ hz,k TI (by simp) _ Vf,⟨a,c,k TO (by simp) _ VI⟩,h1.at fun o e=>k i1 (by simp) o e,h2.at fun o e=>k i2 (by simp) o e⟩
 item:=by
  intro X hP hw hK hc i MC s σ H E I hf st hg;subst hP hw hK;obtain⟨xs,ys,x,y,hx,hy,ex,ey⟩:=hg;obtain⟨hz,Vf,⟨a,c,VI⟩,h1,h2⟩:=st;obtain⟨Uy,VT,p1⟩:=I.seqB hx;obtain⟨Wz,rv2,p2⟩:=I.seqB hy;obtain⟨u1,Y0,Ze⟩:=VT.get ex;obtain⟨u2,eu2,ru2⟩:=rv2.get ey;refine PY D hz Vf VI h1 h2 p1 p2 (x:=u1) (y:=u2) (by simpa using Y0) (by simpa using eu2) fun h' a1 a2 a3 a4 a5 a6 a7=>⟨_,rfl,?_⟩;refine wpAny_letOwnedTupleGo_zip a1 fun Wu b1 b2=>?_;have hT:H s.heap.objs.size=none:=I.hok.fresh (KO _);have VU:∀b o,s.heap.get? b=some o->b≠s.heap.objs.size:=fun b o e=>Lk (K1 e);refine⟨.ref s.heap.objs.size,aM H s.heap.objs.size (.tup [x,y]),?_,rfl,⟨s.heap.objs.size,x,y,rfl,hT,rfl,fun xs' h=>by rw[I.seqB_inj h hx];exact ex,fun UI h=>by rw[I.seqB_inj h hy];exact ey⟩,?_,fun b hb=>?_⟩
  ·show OR X MC σ (aM H s.heap.objs.size (.tup [x,y])) {s with heap:=Wu,toks:=s.toks};refine OR.turnedS (s:=s) (h':=Wu) (t':=s.toks) (ch:=[z,TO,i1,i2]) I (fun b hb=>hf b ?_) (fun b o hc e=>?_) (fun b o e=>by rw[au (ao e hT)];exact e) (fun b hb n=>by rw[au (Lk hb)];exact n) fun b o n e=>?_
   ·simp at hb⊢;rcases hb with rfl|rfl|rfl|rfl<;>simp
   ·simp at hc;exact b2.extBut b o hc.1 (a7 b o hc.1 hc.2.1 hc.2.2.1 hc.2.2.2 e)
   ·by_cases eb:b=s.heap.objs.size
    ·subst eb;rw[ae]at e;cases e;refine⟨OT,[u1,u2],.cons Ze (.cons ru2 .nil),_,b2.extBut _ _ ?_ a5,rfl,_,rfl⟩;exact fun q=>VU z _ hz q.symm
    ·rw[au eb,n]at e;cases e
  ·refine⟨b1,b2.extBut _ _ D.TIz (a7 _ _ D.TIz D.TITO D.TIi1 D.TIi2 Vf),⟨_,_,b2.extBut _ _ D.TOz a2⟩,a3.at fun o e=>b2.extBut _ o D.i1z e,a4.at fun o e=>b2.extBut _ o D.i2z e⟩
  ·have n:=(hf b hb).1;have:b≠s.heap.objs.size:=by
    simp at hb;obtain⟨_,q1,_⟩:=h1.some;obtain⟨_,q2,_⟩:=h2.some;rcases hb with rfl|rfl|rfl|rfl|rfl
    ·exact VU _ _ hz
    ·exact VU _ _ Vf
    ·exact VU _ _ VI
    ·exact VU _ _ q1
    ·exact VU _ _ q2
   rw[au this];exact n
 done:=by
  intro X hP hw hK hc i MC s σ H E I hf st hg;subst hP hw hK;obtain⟨xs,ys,hx,hy,hl⟩:=hg;obtain⟨hz,Vf,⟨a,c,VI⟩,h1,h2⟩:=st;obtain⟨Uy,VT,p1⟩:=I.seqB hx;obtain⟨Wz,rv2,p2⟩:=I.seqB hy;have e1:=VT.length;have e2:=rv2.length;have Yv:Uy.toArray[i]?=none:=by simp;lia
  refine P6 (I.ok.hd hc) D hz Vf VI h1 h2 p1 p2 Yv fun h' k=>⟨rfl,?_⟩;refine I.turnedS (t':=s.toks) (ch:=[z,TO,i1,i2]) (fun b hb=>hf b ?_) (fun b o hc e=>?_) (fun b o e=>e) (fun b hb n=>n) fun b o n e=>?_
  ·simp at hb⊢;rcases hb with rfl|rfl|rfl|rfl<;>simp
  ·simp at hc;exact k b o hc.1 hc.2.1 hc.2.2.1 hc.2.2.2 e
  ·rw[n]at e;cases e
 self:=fun _ _ _ _ _ st h=>wpAny_pyIter_zip st.1 h
section
inductive zp(b1:Bool)(b2:Bool)(K:ZF)(R:It->Hp->Prop)(vs:Uv)(H1:Hp):Prop
 |mk(l1 l2:_):vs=[.ref l1,.ref l2]->(∃xs,xm K b1 H1 l1 xs)->(∃ys,xm K b2 H1 l2 ys)->R (Fj K b1 b2 l1 l2) H1->zp b1 b2 K R vs H1
def Ht(b1 b2:Bool)(K:ZF)(ta:TA):TI:=fun σ H R=>ta σ H fun vs H1=>zp b1 b2 K R vs H1
def Cd(b1 b2:Bool){UP:List Expr}{kt:Nat}{tp:Pos}{a b:Expr}{ta:TA}{p pos:Pos}(hg:Gl X "zip")(hm:X.mg "zip"=none)(ha:PA X [a,b] ta)(hs:starEach [a,b] X.env=[(false,eval a X.env),(false,eval b X.env)]:=by rfl)(X6:starEach [b] X.env=[(false,eval b X.env)]:=by rfl):
  PI X (.Tuple UP kt tp) (.Call (.Name "zip" p) [a,b] [] pos) (Ht b1 b2 X.K ta):=by
 refine⟨?_⟩;intro MC s σ H R I h;refine Call_ (io I hg hm yl (LL (cg (ha pos MC s σ H _ I h) fun us s1 hZZ=>?_) (by rw[hs,X6]) (by rw[X6];rfl)));obtain⟨vs,H1,I1,r1,q1⟩:=hZZ;obtain⟨l1,l2,e,⟨xs,hx⟩,⟨ys,hy⟩,q⟩:=q1;subst e;cases r1 with
 |cons r rr=>
  cases rr with
  |cons r' rr=>
   cases rr;cases r;cases r';obtain⟨Uy,VT,p1⟩:=I1.seqB hx;obtain⟨Wz,rv2,p2⟩:=I1.seqB hy;refine Ru p1 p2 fun h' a1 a2 a3 a4 a5 a7=>?_;refine wpAny_pyIter_zip a1 ?_;have lt1:=rO p1;have lt2:=rO p2;refine⟨_,[s1.heap.objs.size+4,s1.heap.objs.size+2,s1.heap.objs.size+3,s1.heap.objs.size,s1.heap.objs.size+1],_,_,H1,rfl,I1.kept (t':=s1.toks) a7,xn (PyProof.Rows.zipApart_new lt1 lt2),⟨a1,a2,⟨_,_,a3⟩,a4,a5⟩,fun b hb=>?_,q⟩;have Ve:s1.heap.objs.size<=b:=by
    simp only[KH,KY,j_]at hb;rcases hb with e|e|e|e|e<;>rw[e]
    ·exact t_ _ _
    ·exact t_ _ _
    ·exact t_ _ _
    ·exact KO _
    ·exact t_ _ _
   exact I1.fpOk Ve (I1.hok.fresh Ve)
end
def Ce{b1 b2:Bool}{K:ZF}{l1 l2:Ul}{xs ys:Uv}{g:TG}{tf:TT}{te:TE}{ix:List (Option Nat)}{σ:St}{H:Hp}{Q:VK}(hxy:xs.length=ys.length)(Pv:Nat->Uv->Hp->Prop)(h0:Pv 0 [] H)
  (hl:∀i UI H,i<=xs.length->Pv i UI H->xm K b1 H l1 xs/\xm K b2 H l2 ys/\UI.length<=sizeLine)
  (hs:∀i x y UI H T,xs[i]?=some x->ys[i]?=some y->H T=none->Pv i UI H->g (.ref T) (qF ix σ) (aM H T (.tup [x,y])) fun σ2 H2=>P7 (qF ix σ) σ2/\tf σ2 H2 fun b H3=>if b=true then te σ2 H3 fun y H4=>Nx Pv xs.length i (UI++[y]) H4 else Nx Pv xs.length i UI H3)
  (hd:∀UI H,Pv xs.length UI H->∀D,H D=none->Q (.ref D) (aM H D (.lst UI))):wR (Fj K b1 b2 l1 l2) g tf te ix σ H Q:=by
 refine⟨fun i m UI H=>m=xs.length-i/\i<=xs.length/\Pv i UI H,⟨xs.length,by simp,Lh _,h0⟩,?_⟩;rintro i m UI H ⟨rfl,hi,p⟩;obtain⟨q1,q2,hz⟩:=hl i UI H hi p;by_cases MP:i<xs.length
 ·have hlt2:i<ys.length:=by lia
  refine .inr ⟨⟨xs,ys,xs[i],ys[i],q1,q2,by simp[MP],by simp[hlt2]⟩,hz,fun x H' y=>?_⟩;obtain⟨T,x1,y1,rfl,hT,rfl,ex,ey⟩:=y;exact hs i x1 y1 UI H T (ex xs q1) (ey ys q2) hT p
 ·have e:i=xs.length:=by lia
  subst e;exact .inl ⟨⟨xs,ys,q1,q2,KO _⟩,hz,hd UI H p⟩
section
def rP(c:Nat):∀(n:Nat)(UB:Array Nat),(List.foldl (fun(x1 x2:Array Nat)=>x1++x2) UB (List.replicate n #[c]))=UB++(List.replicate n c).toArray
 |0,UB=>by simp
 |n+1,UB=>by
  rw[o_,L_,rP c n];apply Array.ext';simp[o_]
def Cf:gz X (binaryOp .Mult) (fun x y H Q=>∃(c n:Nat),x=.str (S [c])/\y=.int n/\n<=1000/\Q (.str (S (List.replicate n c))) H):=by
 intro MC s σ H x y v u Q I rx ry h;obtain⟨c,n,rfl,rfl,hn,q⟩:=h;obtain⟨t,rfl⟩:=rx;obtain⟨t2,rfl⟩:=ry;refine PySem.P.mul_str ?_ ?_ ?_ ?_
 ·simp;lia
 ·intro _ _;have:(S [c]).length=1:=rfl;rw[this];intro US;have:(1:Int)<=(2^63-1) / (n:Int):=by
   rw[Int.le_ediv_iff_mul_le zo];lia
  lia
 ·intro _ _;have:(S [c]).length=1:=rfl;rw[this];unfold Builtin.Str.tooLong;have sz:(1000:Nat)<=sizeLine:=by decide
  simp;lia
 ·have F':∀(z:Str)(t:Tok)(k:Nat),z=S (List.replicate n c)->EP X MC σ Q (.str z t) {s with toks:=k}:=fun z t k e=>by
   subst e;exact⟨.str (S (List.replicate n c)),H,I.tok k,⟨t,rfl⟩,q⟩
  have fin2:∀(z:Str),z=S (List.replicate n c)->(Made.str z).post (EP X MC σ Q) s:=fun z e=>by
   refine⟨?_,F' z _ _ e⟩;subst e;have sz:(1000:Nat)<=sizeLine:=by decide
   rw[aN,Lp];lia
  by_cases h0:(n:Int)<1
  ·rw[f_ h0];refine fin2 _ ?_;rw[show n=0 by lia];rfl
  ·rw[e_ h0];by_cases h1:((n:Int)==1||(S [c]).length==0)=true
   ·rw[f_ h1];have:n=1:=by
     have e:(S [c]).length=1:=rfl;rw[e]at h1;simp at h1;lia
    subst this;exact F' (S [c]) t s.toks rfl
   ·rw[e_ h1];refine fin2 _ ?_;have:(S [c]).cps=#[c]:=rfl;rw[this,rP];simp[S]
end
section
variable{X:Cx}
inductive DH(r:V->Uv->Hp->VK->Prop)(t:TA)(σ:St)(Q:VK)(x:V)(H1:Hp):Prop
 |mk(p xs:_):x=.ref p->H1 p=some (.tup xs)->(t σ H1 fun xs H2=>r x xs H2 Q)->DH r t σ Q x H1
def Jv(r:V->Uv->Hp->VK->Prop)(to:TE)(t:TA):TE:=fun σ H Q=>to σ H fun x H1=>DH r t σ Q x H1
variable{o e:Expr}{es:List Expr}{to:TE}{t:TA}{name:Str}{L' A':Pos}{id:String}{r:V->Uv->Hp->VK->Prop}
def Fk(pa:PlainAttrs "tuple")(slot:Slot "tuple" name id)(X4:typeOf (.builtin id)=pure (.type "method_descriptor"))(hm:GX X id r)(ho:PE X o to)(ha:PA X (e::es) t)
  (Vn:attributeBase o name X.env (eval o X.env)=eval o X.env:=by rfl)
  (Yu:((backTo A' (starEach (e::es) X.env)).all (fun x=>!x.1)&&(backToKw A' (keywordEach [] X.env)).all (fun x=>x.1.isSome)
   && decide ((e::es).length+([]:List Keyword).length+(if([]:List Keyword).isEmpty then 0 else 1)<30))=true:=by rfl)
  (Vl:(L'.endLine==A'.line)=true:=by rfl) (hs:starEach (e::es) X.env=(false,eval e X.env)::starEach es X.env:=by rfl) (VO:(backTo A' (starEach es X.env)).any (·.1)=false:=by rfl) :
  PE X (.Call (.Attribute o name L') (e::es) [] A') (Jv r to t):=by
 refine⟨?_⟩;intro MC s σ H Q I h;refine wpAny_Call_method_late Vn Yu Vl rfl (cg (ho MC s σ H _ I h) fun v s1 hZZ=>?_);obtain⟨x,H1,I1,r1,p,xs,ex,hp,q1⟩:=hZZ;subst ex;cases r1;obtain⟨_,f',rv,ob,g1,g2,n,g3⟩:=(show O2 X.prog X.w H1 s1.heap p (.tup xs)from I1.hok p _ hp);have gc:=(P_ g2).1;have gd:=(P_ g2).2;refine⟨"tuple",id,pa,slot,X4,⟨ob,g1,gc⟩,fun a e=>?_,?_⟩
 ·cases e;exact⟨ob,g1,gd⟩
 have hA:=ha A' MC s1 σ H1 _ I1 q1;rw[hs]at hA⊢;refine Mh (by show(false||(backTo A' (starEach es X.env)).any (·.1))=false;rw[VO]<;>rfl) (RW ?_);exact cg hA fun us s2⟨vs,H2,I2,r2,q2⟩=>hm MC s2 σ H2 (.ref p) vs _ us Q I2 rfl r2 q2
end
end L2
namespace L3
open PySem L2
inductive Fl(C:Ul)(xs:Uv)(H:Hp)(Q:VK)(Z3:XK):Prop
 |mk(l:Ut)(D:Fm):xs=[.str (S l)]->l.length<=20000->(TK.toks l).length<=1500->pF ((TK.toks l).map S) D->pL D->(∀v H',OM H H'->Pd C H' v D->Q v H')->Fl C xs H Q Z3
def Cg(ts:List (Ut)):vs ts=ay (ts.map S):=by
 unfold vs ay;rw[Lz];rfl
section
def Jw:az [Tu] [Tu] (ak iC):=cv zk
def Hu(F:O0 K "read_table" "read_table" iC f fd)(B:Bl mg)(hM:mg "MOST_SIGNS"=some (.int 20000 tM))(TO:Fn P w K mg base "tokens_of" 3 [Tu] ue)(RF:Fn P w K mg base "read_form" n [S7] ur)(TF:Fn P w K mg base "table_of_form" m ["form"] (Fi C))(hn:3<=n)(hm:m<=n):OQ P w K mg base bQ (n+1) f fd [Tu] (Fl C):=by
 have ZZ:=Jw
 walk_at "o"
 ·obtain⟨l,D,rfl,hl,ht,hF,hO,q⟩:=h;have Vq:OU 3 _:=hr.mono zo;have Wh:OU m _:=hr.mono hm;have sz:(100000:Nat)<=sizeLine:=by decide
  refine⟨_,ac (aT (PW.pt (fe (cE (bT (aI (fR (T:="str")) (by rfl) B.isinstance dj (aa (pv 0) (aa (im (by rfl) B.str eE) ab))))) (dM (aq kO (aI cn (by rfl) B.len KW (aa (pv 0) ab)) (bE (v:=.int 20000) rfl hM ⟨_,rfl⟩))))) (ag bV) aG)
   (ag (aw (ax TF Wh rfl (aa (ax RF hr rfl (aa (ax TO Vq rfl (aa (pv 0) ab)) ab)) ab)))),?_⟩
  refine⟨_,rfl,_,_,_,rfl,.str _,rfl,_,rfl,bP ?_⟩;refine⟨_,rfl,S l,rfl,(by rw[aN];lia),_,_,rfl,rfl,_,rfl,bi (b_ (by rw[aN];lia)) ?_⟩;refine⟨_,rfl,l,rfl,zo,fun p H1 np e1 s1=>?_⟩;rw[Cg]at e1;refine⟨p,_,D,rfl,e1,by rw[Ky];exact ht,hF,fun u H2 s2 hu=>?_⟩;exact⟨u,D,rfl,hu,hO,fun v H3 s3 hv=>q v H3 (s1.trans (s2.trans s3)) hv⟩
end
abbrev pM:Stmt:=cu kj 1
abbrev jS:Stmt:=cu kj 2
abbrev zq:Stmt:=cu kj 3
inductive gO(C:Ul)(vs:Uv)(H:Hp)(Q:VK)(Z3:XK):Prop
 |mk(v D z:_)(j:Nat):vs=[v,.str z]->Pd C H v D->(D.kinds.map Kn.name)[j]?=some z->(∀m,m<j->(D.kinds.map Kn.name)[m]?≠some z)->Q (.int j) H->gO C vs H Q Z3
inductive kB(C:Ul)(vs:Uv)(H:Hp)(Q:VK)(Z3:XK):Prop
 |mk(v D:_)(x:Kn):vs=[v,.str x.name]->Pd C H v D->pL D->x∈D.kinds->(∀b,Qw H x.dd b->Q b H)->kB C vs H Q Z3
inductive Ch(C:Ul)(vs:Uv)(H:Hp)(Q:VK)(Z3:XK):Prop
 |mk(v D:_)(x:Kn):vs=[v,.str x.name]->Pd C H v D->pL D->x∈D.kinds->(∀tf us,H tf=some (.tup us)->Paired (Pc H) us x.fs->Q (.ref tf) H)->Ch C vs H Q Z3
def rQ{l:Us}(nd:l.Nodup){j:Nat}{z:Str}(h:l[j]?=some z):∀m,m<j->l[m]?≠some z:=by
 intro m hm e;have h1:=(Kx.mp h).1;have h2:=(Kx.mp h).2;have h3:=(Kx.mp e).1;have h4:=(Kx.mp e).2;exact List.pairwise_iff_getElem.mp nd m j h3 h1 hm (by rw[h2,h4])
def rR:∀{xs:List α}{ys:List β},Paired R xs ys->∀{i:Nat}{y:β},ys[i]?=some y->∃x,xs[i]?=some x/\R x y
 |_,_,.cons h t,0,y,e=>by
  simp at e;exact⟨_,rfl,e▸h⟩
 |_,_,.cons h t,i+1,y,e=>by
  obtain⟨x,a,b⟩:=rR t (i:=i) (y:=y) (by simpa using e);exact⟨x,by simpa using a,b⟩
def zr:∀{l:List α},x∈l->∃j:Nat,l[j]?=some x:=fun h=>let⟨j,hj,e⟩:=RI h;⟨j,by rw[KF hj,e]⟩
def Pd.same(h:Pd C H v D)(s:OM H H'):Pd C H' v D:=
 let⟨a,dx,pp,pm,pn,pk,us,e,b,c,d,f,g,i⟩:=h
 ⟨a,dx,pp,pm,pn,pk,us,e,s _ _ b,s _ _ c,s _ _ d,s _ _ f,s _ _ g,bD (fun _ _ h=>QC.kt (av s) h) i⟩
section
def zt:az [Sm,SF] [Sm,SF] (ak pM):=cv zk
def xo(F:O0 K "kind_at" "Table.kind_at" pM f fd)(T:Tc K C):OQ P w K mg base bQ 1 f fd [Sm,SF] (gO C):=by
 have ZZ:=zt
 walk_at "o"
 ·obtain⟨v,D,z,j,rfl,⟨a,dx,pp,pm,pn,pk,us,rfl,ho,VG,V',WR,WS,ML⟩,hj,hf,q⟩:=h;refine⟨_,ac (aT (aq eV (pv 1) (bB (pv 0) rfl) rfl) (ag bV) aG)
   (ag (aw (Fk PySem.F.plainAttrs_tuple PySem.F.slot_tuple_index PySem.F.type_tuple_index rN (bB (pv 0) rfl) (aa (pv 1) ab)))),?_⟩
  have hz:z∈D.kinds.map Kn.name:=KQ hj;refine⟨_,rfl,_,rfl,a,C,dx,_,_,rfl,ho,T.cl,T.na S5 zk,rfl,pn,_,rfl,.inr (ON.of WR),rfl,eI _,_,rfl,bi ?_ ?_⟩
  ·show(!j7 (.str z) (ay (D.kinds.map Kn.name)))=false;rw[dU,Lg.mpr hz];rfl
  ·exact⟨_,rfl,a,C,dx,_,_,rfl,ho,T.cl,T.na S5 zk,rfl,pn,_,rfl,WR,_,rfl,pn,_,z,j,rfl,rfl,ON.of WR,hj,hf,q⟩
def Jx:az [Sm,SF] [Sm,SF] (ak jS):=cv zk
variable{fd:Ur}{f:Ul}
def Hv(F:O0 K "fields_of" "Table.fields_of" jS f fd)(T:Tc K C)(KA:cD P w K mg base C "kind_at" 1 [Sm,SF] (gO C)):OQ P w K mg base bQ 2 f fd [Sm,SF] (Ch C):=by
 have ZZ:=Jx
 walk_at "o"
 ·obtain⟨v,D,x,rfl,hT,hD,hx,q⟩:=h;obtain⟨a,dx,pp,pm,pn,pk,us,rfl,ho,VG,V',WR,WS,ML⟩:=id hT;have ME:OU 1 _:=hr;obtain⟨f1,MG,M1,F1,B1⟩:=KA;refine⟨_,ag (aw (aB aJ (aB aJ (bB (pv 0) rfl) (be (pv 0) (aa (pv 1) ab))) af)),?_⟩;obtain⟨j,hj⟩:=zr hx;obtain⟨u,hu,p,tf,b,fu,rfl,hp,W7,U',hb⟩:=rR ML hj;have ZB:(D.kinds.map Kn.name)[j]?=some x.name:=by rw[KZ,hj];rfl
  refine⟨_,rfl,a,C,dx,_,_,rfl,ho,T.cl,T.na SN zk,rfl,_,rfl,a,dx,C,f1,_,MG,1,[Sm,SF],_,rfl,ho,rfl,T.cl,M1,F1,ME,B1,_,rfl,_,D,x.name,j,rfl,hT,ZB,rQ hD.kn ZB,?_⟩;exact⟨pk,us,_,_,rfl,rfl,ON.of WS,bf hu,p,_,_,_,rfl,rfl,ON.of hp,rfl,q tf fu W7 U'⟩
def Fo:az [Sm,SF] [Sm,SF] (ak zq):=cv zk
def zu(F:O0 K To "Table.deed" zq f fd)(T:Tc K C)(KA:cD P w K mg base C "kind_at" 1 [Sm,SF] (gO C)):OQ P w K mg base bQ 2 f fd [Sm,SF] (kB C):=by
 have ZZ:=Fo
 walk_at "o"
 ·obtain⟨v,D,x,rfl,hT,hD,hx,q⟩:=h;obtain⟨a,dx,pp,pm,pn,pk,us,rfl,ho,VG,V',WR,WS,ML⟩:=id hT;have ME:OU 1 _:=hr;obtain⟨f1,MG,M1,F1,B1⟩:=KA;refine⟨_,ag (aw (aB aJ (aB aJ (bB (pv 0) rfl) (be (pv 0) (aa (pv 1) ab))) af)),?_⟩;obtain⟨j,hj⟩:=zr hx;obtain⟨u,hu,p,tf,b,fu,rfl,hp,W7,U',hb⟩:=rR ML hj;have ZB:(D.kinds.map Kn.name)[j]?=some x.name:=by rw[KZ,hj];rfl
  refine⟨_,rfl,a,C,dx,_,_,rfl,ho,T.cl,T.na SN zk,rfl,_,rfl,a,dx,C,f1,_,MG,1,[Sm,SF],_,rfl,ho,rfl,T.cl,M1,F1,ME,B1,_,rfl,_,D,x.name,j,rfl,hT,ZB,rQ hD.kn ZB,?_⟩;exact⟨pk,us,_,_,rfl,rfl,ON.of WS,bf hu,p,_,_,_,rfl,rfl,ON.of hp,jO,q b hb⟩
end
def cp(z:Str):Ut:=z.cps.toList
def gw(z:Str):S (cp z)=z:=(yG z).symm
def gx(l:Ut):cp (S l)=l:=rfl
def rS(l:Us):(l.map cp).map S=l:=by
 rw[Lz];refine Eq.trans ?_ (List.map_id l);exact E_ fun z _=>gw z
def gP(sep:Ut):∀ts:List (Ut),(S sep).join (ts.map S)=S (TK.jn sep ts)
 |[]=>rfl
 |[t]=>rfl
 |t::u::r=>by
  have ih:=gP sep (u::r);show S t++S sep++(S sep).join ((u::r).map S)=S (t++(sep++TK.jn sep (u::r)));rw[ih,bY,bY,Le]
def DI(c:Nat)(t u:Ut)(r:List (Ut)):c∈TK.jn [c] (t::u::r):=by
 show c∈t++([c]++TK.jn [c] (u::r));simp
def zw:∀{a b x y:Ut},c∉a->c∉b->a++(c::x)=b++(c::y)->a=b/\x=y
 |[],[],x,y,_,_,h=>by simpa using h
 |[],b::bs,x,y,_,hb,h=>by
  simp at h;exact absurd (h.1▸KB) hb
 |a::as,[],x,y,ha,_,h=>by
  simp at h;exact absurd (h.1▸KB) ha
 |a::as,b::bs,x,y,ha,hb,h=>by
  simp at h;obtain⟨h1,h2⟩:=h;obtain⟨h3,h4⟩:=zw (a:=as) (b:=bs) (fun z=>ha (KM _ z)) (fun z=>hb (KM _ z)) h2;exact⟨by rw[h1,h3],h4⟩
def zx:∀{a b:List (Ut)},a≠[]->b≠[]->(∀t∈a,c∉t)->(∀t∈b,c∉t)->TK.jn [c] a=TK.jn [c] b->a=b
 |[],_,h,_,_,_,_=>absurd rfl h
 |_,[],_,h,_,_,_=>absurd rfl h
 |[t],[u],_,_,_,_,h=>by
  have:t=u:=h;rw[this]
 |[t],u::v::r,_,_,ha,_,h=>by
  have h1:t=TK.jn [c] (u::v::r):=h;exact absurd (h1▸DI c u v r) (ha t KB)
 |t::s::q,[u],_,_,_,hb,h=>by
  have h1:TK.jn [c] (t::s::q)=u:=h;exact absurd (h1▸DI c t s q) (hb u KB)
 |t::s::q,u::v::r,_,_,ha,hb,h=>by
  have h1:t++(c::TK.jn [c] (s::q))=u++(c::TK.jn [c] (v::r)):=h;obtain⟨h2,h3⟩:=zw (ha t KB) (hb u KB) h1;have:=zx (a:=s::q) (b:=v::r) (by simp) (by simp) (fun z hz=>ha z (KM _ hz)) (fun z hz=>hb z (KM _ hz)) h3;rw[h2,this]
def zy(c:Nat)(ts:List (Ut))(h0:TK.jn [c] ts≠[])(hf:∀t∈ts,c∉t):Txt.split (S (TK.jn [c] ts)) (S [c])=ts.map S:=by
 have h1:=StrLaws.join_split (S (TK.jn [c] ts)) (S [c]);have h2:=StrLaws.split_free (S (TK.jn [c] ts)) c;have hS:(⟨#[c]⟩:Str)=S [c]:=rfl;rw[hS]at h2;generalize Txt.split (S (TK.jn [c] ts)) (S [c])=ps at h1 h2;have h3:=rS ps;rw[<-h3,gP]at h1;have h4:TK.jn [c] (ps.map cp)=TK.jn [c] ts:=by
  have:=d_ cp h1;rw[gx,gx]at this;exact this
 have n1:ps.map cp≠[]:=by
  intro e;rw[e]at h4;exact h0 h4.symm
 have n2:ts≠[]:=by
  intro e;rw[e]at h0;exact h0 rfl
 have h5:=zx n1 n2 (fun t ht=>by
  obtain⟨p,hp,rfl⟩:=K4.mp ht;exact h2 p hp) hf h4
 rw[<-h5,h3]
def uA(sep:Ut):∀ts:List (Ut),(TK.jn sep ts).length<=(ts.map List.length).sum+ts.length*sep.length
 |[]=>by simp[TK.jn]
 |[t]=>by simp[TK.jn]
 |t::u::r=>by
  have ih:=uA sep (u::r);show(t++(sep++TK.jn sep (u::r))).length<=_;rw[Kz,Kz];simp only[K2,Mv,KC]at ih⊢;have:(r.length+1+1)*sep.length=(r.length+1)*sep.length+sep.length:=by rw[RD (r.length+1) 1,Q_]
  lia
def iJ(k:Nat):∀ts:List (Ut),(∀t∈ts,t.length<=k)->(ts.map List.length).sum<=ts.length*k
 |[],_=>by simp
 |t::r,h=>by
  have ih:=iJ k r (fun t ht=>h t (KM _ ht));have:=h t KB;simp only[K2,Mv,KC];have:(r.length+1)*k=r.length*k+k:=by rw[RD,Q_]
  lia
def pN:(" ":Str)=S [32]:=by decide +kernel
def Jy:("\n":Str)=S [10]:=by decide +kernel
def ic(h:i<2^25):((i:Nat):Int).natAbs.log2<1920:=by
 rw[Int.natAbs_natCast];by_cases h0:i=0
 ·rw[h0];decide
 ·rw[Nat.log2_lt h0];exact Lf h (K0 zd zd)
def rT(a b:Us):ay a++ay b=ay (a++b):=by unfold ay;rw[KJ]
def dm(a:Us):(ay a).length=a.length:=by unfold ay;rw[Ky]
def vZ(hl:H l=some (.lst (ay xs)))(hb:H b=some (.lst (ay zs)))(hz:xs.length+zs.length<=1000000)(q:∀c H',OM H H'->H c=none->H' c=some (.lst (ay (xs++zs)))->Q (.ref c) H'):Bu (.ref l) (.ref b) H Q:=by
 have sz:(1000000:Nat)<=sizeLine:=by decide
 refine⟨l,b,_,_,rfl,rfl,hl,hb,by rw[dm,dm];lia,fun c nc=>?_⟩;rw[rT];exact q _ _ (aj nc) nc ae
def cO:∀{m:Nat}{e:Ex},cV w m e->(c8 e).length+3<=2^(m+2)
 |0,.num n,_=>by show 1+3<=_;decide
 |m+1,.num n,_=>by
  have:0<2^m:=Mt zd;show 1+3<=2^(m+3);have:2^(m+3)=8*2^m:=by rw[Nat.pow_add];lia
  lia
 |0,.nm z,_=>by show 1+3<=_;decide
 |m+1,.nm z,_=>by
  have:0<2^m:=Mt zd;show 1+3<=2^(m+3);have:2^(m+3)=8*2^m:=by rw[Nat.pow_add];lia
  lia
 |0,.cell _,h=>absurd h (by simp[cV])
 |m+1,.cell e,h=>by
  have:=cO (m:=m) (e:=e) h;have h2:2^(m+1+2)=2*2^(m+2):=by rw[show m+1+2=m+2+1 by lia,Mm];lia
  simp only[c8,KC,Kz,K3];lia
 |0,.two _ _ _,h=>absurd h (by simp[cV])
 |m+1,.two o x y,h=>by
  have h1:=cO (m:=m) (e:=x) h.2.1;have h3:=cO (m:=m) (e:=y) h.2.2;have h2:2^(m+1+2)=2*2^(m+2):=by rw[show m+1+2=m+2+1 by lia,Mm];lia
  simp only[c8,KC,Kz,K3];lia
def v0(h:jM w g):(i4 g).length<=62:=by
 cases g with
 |cell a e=>
  have h1:=cO h.1;have h2:=cO h.2;simp only[i4,KC,Kz,K3];lia
 |nm z e=>
  have h2:=cO h.2;simp only[i4,KC,Kz,K3];lia
def nR:∀{s:List Gs},(∀g∈s,jM w g)->(bZ s).length<=63*s.length
 |[],_=>Lh _
 |g::r,h=>by
  have h1:=v0 (h g KB);have h2:=nR fun x hx=>h x (KM _ hx);simp only[bZ,KC,Kz];lia
def wa(e:En):(gC e).length<=2:=by cases e<;>simp[gC]
def i8:∀{m:Nat}{b:Bd},fA w m b->(dk b).length+10<=500*2^m
 |m,.leaf s e,h=>by
  have h1:s.length<=4:=by cases m<;>exact h.1
  have h2:∀g∈s,jM w g:=by cases m<;>exact h.2.1
  have h3:=nR h2;have h4:=wa e;have:0<2^m:=Mt zd;simp only[dk,KC,Kz,K3];lia
 |0,.ite _ _ _ _,h=>absurd h (by simp[fA])
 |m+1,.ite t z y n,h=>by
  have h1:=i8 (m:=m) (b:=y) h.2.1;have h2:=i8 (m:=m) (b:=n) h.2.2;have h3:2^(m+1)=2*2^m:=by rw[Mm];lia
  have h4:(if t then [(Ta:Str),z]else [z]).length<=2:=by cases t<;>simp
  simp only[dk,KC,Kz,K3];lia
def lY [DecidableEq κ](kvs:List (κ×V))(k:κ)(v:V):(bz kvs k v).length<=kvs.length+1:=by
 unfold bz;split<;>simp
def wb{zs:Us}{i:Nat}{x:V}(h:(ay zs)[i]?=some x):∃z,zs[i]?=some z/\x=.str z:=by
 unfold ay at h;rw[KZ]at h;cases e:zs[i]? with
 |none=>rw[e]at h;cases h
 |some z=>rw[e]at h;exact⟨z,rfl,(Lc h).symm⟩
def fL(D:Fm):Us:=[(SE:Str),(toString (D.width:Int):Str),";",Sw,(toString (D.cells:Int):Str),";",Sx,(toString (D.depth:Int):Str),";"]++([(So:Str)]++D.places++[(";":Str)])++([(Ss:Str)]++D.marks++[(";":Str)])++[(SS:Str)]++D.gates++[(";":Str)]
def pO(fs:Uu):Us:=fs.flatMap fun x=>[x.1,x.2,","]
def dZ(fs:Uu):Us:=(pO fs).take ((pO fs).length-1)
def cA(x:Kn):Us:=[(SF:Str),x.name,("(":Str)]++dZ x.fs++[(")":Str)]++dk x.bd
def nS(zs:Us)(n:Nat):(ay zs).take n=ay (zs.take n):=by unfold ay;rw[List.map_take]
def rU(fs:Uu):(pO fs).length=3*fs.length:=by
 induction fs with
 |nil=>rfl
 |cons x r ih=>
  unfold pO at*;rw[LZ,Kz,ih];simp;lia
def dq(ts:List (Ut)):Uv:=ts.map fun t=>V.str (S t)
def lZ(zs:Us):dq (zs.map cp)=ay zs:=by
 unfold dq ay;rw[Lz];refine E_ fun z _=>?_;show V.str (S (cp z))=V.str z;rw[gw]
def da(ts:List (Ut)):(dq ts).length=ts.length:=by unfold dq;rw[Ky]
def dW(D:Fm):Us:=fL D++D.kinds.flatMap cA
def aC(zs:Us):Ut:=TK.jn [32] (zs.map cp)
def i9(D:Fm)(ks:List Kn):List (Ut):=aC (fL D)::ks.map fun x=>aC (cA x)
def gf(D:Fm):Ut:=TK.jn [10] (i9 D D.kinds)
def rV(h1:zs.length<=1500)(h2:∀z∈zs,(cp z).length<=25):((zs.map cp).map List.length).sum+(zs.map cp).length*[32].length<=100000/\(aC zs).length<=zs.length*26:=by
 have h3:=iJ 25 (zs.map cp) fun t ht=>by
  obtain⟨z,hz,rfl⟩:=K4.mp ht;exact h2 z hz
 have h4:=uA [32] (zs.map cp);rw[Ky]at*;simp only[KC,K3]at*;unfold aC;lia
def xp{zs:List Kn}(h:∀x∈zs,(aC (cA x)).length<=(cA x).length*26):((zs.map fun x=>aC (cA x)).map List.length).sum<=(zs.flatMap cA).length*26:=by
 induction zs with
 |nil=>exact KO _
 |cons x r ih=>
  have h1:=h x KB;have h2:=ih fun y hy=>h y (KM _ hy);rw[LZ,Kz,K2,K2,Mv];lia
def ja:∀{l:List Kn},x∈l->(cA x).length<=(l.flatMap cA).length
 |y::r,h=>by
  rw[LZ,Kz];rcases KH.mp h with rfl|h
  ·lia
  ·have:=ja h;lia
def O6:List (Ut):=[[],[115,101,116],[105,102],[116,111,112],[110,101,120,116],[98],[103,111],[99,97,108,108]]
def ma(fi k:Nat):Ut:=[([113,118,106,121,122]:Ut).getD ((fi+2*k)%5) 0]++List.replicate (k / 5) 97
def Hw(Xk:Ut)(P' fi k:Nat):Ut:=if P'=0 then Xk++ma fi k else if P'=1 then ma fi k++Xk else Xk.take (k%(Xk.length+1))++ma fi k
def gQ(si P' fi m:Nat):List (Ut):=(List.range m).map (Hw (O6.getD si []) P' fi)
def RB:List (Ut):=PQ.map cp
def Jz(t:Ut):Bool:=!decide (t=[100,101,101,112]) && !decide (t=[98,97,114,101])&&decide (1<=t.length)&&decide (t.length<=8) && !RB.contains t&&t.all fun c=>decide (97<=c)&&decide (c<=122)
def IF:List (Ut)->Bool
 |[]=>true
 |t::r=>!r.contains t&&IF r
def zA:∀{l:List (Ut)},IF l=true->l.Nodup
 |[],_=>List.nodup_nil
 |t::r,h=>by
  unfold IF at h;simp at h;exact Mj.mpr ⟨h.1,zA h.2⟩
def Ci:((List.range 8).all fun si=>(List.range 3).all fun P'=>(List.range 5).all fun fi=>IF (gQ si P' fi 10)&&(gQ si P' fi 10).all Jz)=true:=by decide +kernel
def Qh(h:S a=S b):a=b:=by
 have:=d_ cp h
 rwa [gx,gx]at this
def cP(z:Str):Prop:=OY z/\z∉([(TV:Str),(TY:Str)]:Us)
def Cj(h:Jz t=true):cP (S t):=by
 unfold Jz at h;simp only[Mg,RR,Li,Bool.not_eq_true']at h;obtain⟨⟨⟨⟨⟨h5,h6⟩,h1⟩,h2⟩,h3⟩,h4⟩:=h;refine⟨⟨fun hm=>?_,by rw[aN];exact h1,by rw[aN];exact h2,h4⟩,fun hm=>?_⟩;rotate_left
 ·have d1:(TV:Str)=S [100,101,101,112]:=by decide +kernel
  have d2:(TY:Str)=S [98,97,114,101]:=by decide +kernel
  rw[d1,d2]at hm;simp only[KH,KY,j_]at hm;rcases hm with e|e
  ·exact absurd (Qh e) (by simpa using h5)
  ·exact absurd (Qh e) (by simpa using h6)
 have:t∈RB:=K4.mpr ⟨S t,hm,gx t⟩;rw[Lg.mpr this]at h3;cases h3
variable{si P' fi m:Nat}
def zC(h:m<=10):gQ si P' fi m=(gQ si P' fi 10).take m:=by
 unfold gQ;rw[<-List.map_take,List.take_range,Mp h]
def zD(h1:si<8)(h2:P'<3)(h3:fi<5)(hm:m<=10):((gQ si P' fi m).map S).Nodup/\(∀z∈(gQ si P' fi m).map S,cP z)/\((gQ si P' fi m).map S).length=m:=by
 have h:=Li.mp (Li.mp (Li.mp Ci si (LG.mpr h1)) P' (LG.mpr h2)) fi (LG.mpr h3);obtain⟨ha,hb⟩:=Bool.and_eq_true_iff.mp h;rw[zC hm];refine⟨?_,fun z hz=>?_,?_⟩
 ·rw[List.map_take];refine List.Nodup.sublist (RU _ _) ?_;unfold List.Nodup;rw[List.pairwise_map];exact(zA ha).imp fun MM e=>MM (Qh e)
 ·obtain⟨t,ht,rfl⟩:=K4.mp hz;exact Cj (Li.mp hb t (LX ht))
 ·rw[Ky,KG];unfold gQ;simp;lia
def md(l:List (Ut)):dq l=ay (l.map S):=by unfold dq ay;rw[Lz];rfl
inductive mh(vs:Uv)(H:Hp)(Q:VK)(Z3:XK):Prop
 |mk(p:Ul)(m:Nat):vs=[.ref p,.int m]->OX H p->m<=10->(∀(l:Ul)H'(zs:Us),zs.length=m->zs.Nodup->(∀z∈zs,cP z)->OX H' p->O4 p H H'->H l=none->H' l=some (.lst (ay zs))->Q (.ref l) H')->mh vs H Q Z3
def Ck(h:si<8):([("":Str),"set",Ub,Ta,S4,"b",Ts,SH].map V.str)[si]?=some (.str (S (O6.getD si []))):=by
 have e:([("":Str),"set",Ub,Ta,S4,"b",Ts,SH]:Us)=O6.map S:=by decide +kernel
 rw[e,Lz,KZ];have hl:si<O6.length:=h;rw[KF hl];simp[hl]
def zE(si:Nat):(O6.getD si []).length<=4:=by
 by_cases h:si<8
 ·revert si;decide +kernel
 ·have:O6.getD si []=[]:=by
   rw[KP,N_ (by show 8<=si;lia)];rfl
  rw[this];simp
section
def Pg:az [Sj,SB,"_law_stem",Ti,Th,SZ,Tk,"_law_tail"] [Sj,SB] (ak tK):=cv zk
def xq{f:Ul}{fd:Ur}(F:O0 K "_law_names" "_law_names" tK f fd)(B:Bl mg)(J':Fn P w K mg base "_law_take" 1 [Sj,SB] eO):OQ P w K mg base bQ 2 f fd [Sj,SB] mh:=by
 have ZZ:=Pg
 walk_at "o"
 ·obtain⟨p,m,rfl,hp,hm,q⟩:=h;have sz:(100000:Nat)<=sizeLine:=by decide
  refine⟨_,ac (bL (i:=2) Pg.nd (aB aU (aP (aa ai (aa ai (aa ai (aa ai (aa ai (aa ai (aa ai (aa ai ab))))))))) (ax J' hr rfl (aa (pv 0) (aa af ab)))))
   (ac (bL (i:=3) Pg.nd (ax J' hr rfl (aa (pv 0) (aa af ab))))
   (ac (bL (i:=4) Pg.nd (ax J' hr rfl (aa (pv 0) (aa af ab))))
   (ac (bL (i:=5) Pg.nd (aP ab))
   (ac (cc g_ rfl (dF rfl B.range (aa (pv 1) ab)) (cq (i:=6) Pg.nd)
    (ac (bL (i:=7) Pg.nd (aH aR (aB jw ai (aH fg (aH bX (pv 4) (aH gp af (pv 6))) af)) (aH Cf ai (aH oq (pv 6) af))))
    (ag (aT (aq aX (pv 3) af) (ag (aQ (ci KU KS KR bv (pv 5) (aa (aH aR (pv 2) (pv 7)) ab))))
     (ag (aT (aq aX (pv 3) af) (ag (aQ (ci KU KS KR bv (pv 5) (aa (aH aR (pv 7) (pv 2)) ab))))
      (ag (aQ (ci KU KS KR bv (pv 5) (aa (aH aR (fh oH (pv 2) oy (dP (aH fg (pv 6) (aH bX (aI cn (by rfl) B.len KW (aa (pv 2) ab)) af)))) (pv 7)) ab))))))))))
   (ag (aw (pv 5))))))),?_⟩
  refine⟨OT,fun l8 n8=>?_⟩;have s1:=aj (o:=.lst ([("":Str),"set",Ub,Ta,S4,"b",Ts,SH].map V.str)) n8;have YL:=hp.same s1;have e8:(aM H l8 (.lst ([("":Str),"set",Ub,Ta,S4,"b",Ts,SH].map V.str))) l8=some (.lst ([("":Str),"set",Ub,Ta,S4,"b",Ts,SH].map V.str)):=ae;refine⟨_,rfl,p,8,rfl,YL,zd,zd,fun si H2 hsi g2 b2=>?_⟩;have n8p:=hp.ne n8;refine⟨l8,_,_,_,rfl,rfl,OO.of (b2 _ _ e8 n8p.symm),bf (Ck hsi),?_⟩;have Xh:O4 p H H2:=(dS s1).trans b2;refine⟨_,rfl,p,3,rfl,g2,zd,zd,fun P' H3 hway g3 b3=>?_⟩;refine⟨_,rfl,p,5,rfl,g3,zd,zd,fun fi H4 hfi g4 b4=>?_⟩;have XO:O4 p H H4:=Xh.trans (b3.trans b4);clear Xh b2 b3 b4 g2 g3;refine⟨OT,fun ln nln=>?_⟩;have s5:=aj (o:=.lst []) nln;have e5:(aM H4 ln (.lst [])) ln=some (.lst []):=ae;have g5:=g4.same s5;have pln:p≠ln:=g4.ne nln;have nH:H ln=none:=by
   cases h:H ln with
   |none=>rfl
   |some o=>
    have:=XO _ _ h pln.symm;rw[nln]at this;cases this
  have b05:O4 p H (aM H4 ln (.lst [])):=XO.same s5;generalize aM H4 ln (.lst ([]:Uv))=H5 at*;refine⟨_,rfl,_,rfl,by lia,by lia,?_⟩;rw[show((m:Int)).toNat=m from Lu m];have sl:=zE si;refine dG (lo:=0) (n:=m) (fun i σ H'=>∃v6 v7:Option V,σ=[some (.ref p),some (.int m),some (.str (S (O6.getD si []))),some (.int P'),some (.int fi),some (.ref ln),v6,v7]/\OX H' p/\O4 p H H'/\H' ln=some (.lst (dq (gQ si P' fi i)))) ⟨_,_,rfl,g5,b05,e5⟩ ?_ ?_
  ·rintro k σ H6 hk ⟨v6,v7,rfl,g6,b6,e6⟩;have hk':k<m:=hk;have e0:((0:Int)+(k:Int))=(k:Int):=by lia
   rw[e0];have Ys:((fi:Int)+2*(k:Int))%5=(((fi+2*k)%5:Nat):Int):=by lia
   have Yw:(k:Int) / 5=((k / 5:Nat):Int):=by lia
   have hq5:(fi+2*k)%5<5:=Mx _ zd;have qat:∀j<5,("qvjyz":Str).cps.toList[j]?=some (([113,118,106,121,122]:Ut).getD j 0):=by decide +kernel
   have tlen:(ma fi k).length<=3:=by
    unfold ma;rw[Kz,Lp];simp;lia
   refine⟨_,rfl,_,rfl,_,_,rfl,rfl,.inl ⟨zd,zd⟩,_,_,rfl,rfl,_,_,rfl,rfl,(by show(0:Int)<5;decide),?_⟩;refine⟨"qvjyz",_,_,rfl,rfl,zk,by show oz _ (((fi:Int)+2*(k:Int))%5)=_;rw[Ys];exact bf (qat _ hq5),?_⟩;refine⟨_,rfl,_,_,rfl,rfl,⟨by show(0:Int)<5;decide,by show(5:Int)<1073741824;decide⟩,?_⟩;refine⟨97,k / 5,d_ V.str zk,d_ V.int Yw,by lia,?_⟩;refine⟨_,_,rfl,rfl,?_,?_⟩
   ·show 1+(S _).length<=_;rw[aN,Lp];lia
   have et:((⟨#[([113,118,106,121,122]:Ut).getD ((fi+2*k)%5) 0]⟩:Str)++S (List.replicate (k / 5) 97))=S (ma fi k):=bY [_] _;rw[et];have F':∀nm,nm=Hw (O6.getD si []) P' fi k->∃v6 v7:Option V,[some (V.ref p),some (.int m),some (.str (S (O6.getD si []))),some (.int P'),some (.int fi),some (.ref ln),some (.int k),some (.str (S (ma fi k)))]=[some (.ref p),some (.int m),some (.str (S (O6.getD si []))),some (.int P'),some (.int fi),some (.ref ln),v6,v7]/\OX (aM H6 ln (.lst (dq (gQ si P' fi k)++[.str (S nm)]))) p/\O4 p H (aM H6 ln (.lst (dq (gQ si P' fi k)++[.str (S nm)])))/\(aM H6 ln (.lst (dq (gQ si P' fi k)++[.str (S nm)]))) ln=some (.lst (dq (gQ si P' fi (k+1)))):=by
    rintro nm rfl;refine⟨_,_,rfl,?_,?_,?_⟩
    ·obtain⟨x,y,z,e⟩:=g6;exact⟨x,y,z,by rw[au pln];exact e⟩
    ·intro b o e nb;rw[au (ao e nH)];exact b6 _ _ e nb
    ·rw[ae];unfold gQ dq;rw[Mo,KJ,KJ];rfl
   have lnm:(dq (gQ si P' fi k)).length<sizeLine:=by
    unfold dq gQ;rw[Ky,Ky,List.length_range];lia
   refine⟨_,rfl,rfl,_,rfl,ce (fun h=>?_) (fun h=>?_)⟩
   ·have h':(P':Int)=0:=V.int.inj (h_ h);have hw0:P'=0:=by lia
    refine⟨_,rfl,.inl ⟨rfl,_,OO.of e6⟩,_,rfl,_,rfl,_,_,rfl,rfl,by rw[aN,aN];lia,ln,_,_,rfl,rfl,e6,lnm,?_⟩;rw[bY];exact F' _ (by unfold Hw;rw[f_ hw0])
   have Zf:P'≠0:=fun e=>h (a_ (by rw[e];rfl));refine⟨_,rfl,rfl,_,rfl,ce (fun h=>?_) (fun h=>?_)⟩
   ·have h':(P':Int)=1:=V.int.inj (h_ h);have hw1:P'=1:=by lia
    refine⟨_,rfl,.inl ⟨rfl,_,OO.of e6⟩,_,rfl,_,rfl,_,_,rfl,rfl,by rw[aN,aN];lia,ln,_,_,rfl,rfl,e6,lnm,?_⟩;rw[bY];exact F' _ (by unfold Hw;rw[e_ Zf,f_ hw1])
   have nw1:P'≠1:=fun e=>h (a_ (by rw[e];rfl));refine⟨_,rfl,.inl ⟨rfl,_,OO.of e6⟩,_,rfl,_,rfl,_,rfl,_,rfl,by rw[aN];lia,_,_,rfl,rfl,_,_,rfl,rfl,?_,_,rfl,_,rfl,by lia,?_⟩
   ·rw[aN];show(0:Int)<((O6.getD si []).length:Int)+1;lia
   have hcut:ij (O6.getD si []) none (some ((k:Int)%(((S (O6.getD si [])).length:Int)+1)))=(O6.getD si []).take (k%((O6.getD si []).length+1)):=by
    rw[aN];have e1:(k:Int)%(((O6.getD si []).length:Int)+1)=((k%((O6.getD si []).length+1):Nat):Int):=by
     rw[Int.natCast_emod];rfl
    have MP:k%((O6.getD si []).length+1)<(O6.getD si []).length+1:=Mx _ (by lia);unfold ij;rw[e1,HT.sIx_none,HT.sIx_nat,Mp (by lia),Se,Nat.sub_zero]
   refine⟨_,rfl,_,_,rfl,rfl,?_,ln,_,_,rfl,rfl,e6,lnm,?_⟩
   ·have:(ij (O6.getD si []) none (some ((k:Int)%(((S (O6.getD si [])).length:Int)+1)))).length<=4:=by
     rw[hcut,KG];lia
    rw[aN,aN];exact Ll (Nat.add_le_add this tlen) (by lia)
   ·rw[bY];exact F' _ (by unfold Hw;rw[e_ Zf,e_ nw1];exact d_ (·++_) hcut)
  ·rintro σ H6 ⟨v6,v7,rfl,g6,b6,e6⟩;obtain⟨h1,h2,h3⟩:=zD (m:=m) hsi hway hfi hm;rw[md]at e6;exact⟨_,rfl,q ln H6 _ h3 h1 h2 g6 b6 nH e6⟩
end
end L3
namespace L2
open PySem PySem.Spec PyProof.Rows
def kC{K:ZF}{l:Ul}{xs:Uv}{g:TG}{tf:TT}{te:TE}{ix:List (Option Nat)}{σ:St}{H:Hp}{Q:VK}(Pv:Nat->Uv->Hp->Prop)(h0:Pv 0 [] H)
  (hl:∀i ys H,i<=xs.length->Pv i ys H->OO K H l xs/\ys.length<=sizeLine)
  (hs:∀i x ys H T,xs[i]?=some x->H T=none->Pv i ys H->g (.ref T) (qF ix σ) (aM H T (.tup [.int i,x])) fun σ2 H2=>P7 (qF ix σ) σ2/\tf σ2 H2 fun b H3=>if b=true then te σ2 H3 fun y H4=>Nx Pv xs.length i (ys++[y]) H4 else Nx Pv xs.length i ys H3)
  (hd:∀ys H,Pv xs.length ys H->∀D,H D=none->Q (.ref D) (aM H D (.lst ys))):wR (Gy K l) g tf te ix σ H Q:=by
 refine⟨fun i m ys H=>m=xs.length-i/\i<=xs.length/\Pv i ys H,⟨xs.length,by simp,Lh _,h0⟩,?_⟩;rintro i m ys H ⟨rfl,hi,p⟩;obtain⟨q,hz⟩:=hl i ys H hi p;by_cases MP:i<xs.length
 ·refine .inr ⟨⟨xs,xs[i],q,by simp[MP]⟩,hz,fun v H' y=>?_⟩;obtain⟨T,x,e1,hT,e2,hy⟩:=y;subst e1 e2;exact hs i x ys H T (hy xs q) hT p
 ·have e:i=xs.length:=by lia
  subst e;exact .inl ⟨⟨xs,q,KO _⟩,hz,hd ys H p⟩
end L2
namespace L3
open PySem L2
section
variable{y:V}{kvs:List (cQ×V)}
def eP{k:cQ}:bq (bz kvs k y) k=some y:=by rw[rh,f_ rfl]
def bR{k j:cQ}(h:j≠k):bq (bz kvs k y) j=bq kvs j:=by rw[rh,e_ h]
def bA(e:H a=some (.dK kvs))(h:bq kvs (Sum.inr z)=some v):Pj H a (.str z) (some v):=by
 have:=Pj.k (k:=Sum.inr z) e;rw[h]at this;exact this
def uB(b:O4 p H H1)(g:OX H1 p)(n:H1 l=none):H l=none:=by
 have hl:=g.ne n;cases e:H l with
 |none=>rfl
 |some o=>
  have:=b _ _ e hl.symm;rw[n]at this;cases this
def Fp(xs:Uv)(n:Nat):mS xs none (some (n:Int))=xs.take n:=by
 unfold mS;rw[HT.sIx_nat,HT.sIx_none,Se,Nat.sub_zero];by_cases h:n<=xs.length
 ·rw[Mp h]
 ·rw[Nat.min_eq_right zo,LB (KO _),LB zo]
def Fq(xs:Uv)(n m:Nat)(h:n+m<=xs.length):mS xs (some (n:Int)) (some ((n+m:Nat):Int))=(xs.drop n).take m:=by
 unfold mS;rw[HT.sIx_nat,HT.sIx_nat,Mp h,Mp (by lia:n<=xs.length),Nat.add_sub_cancel_left]
def kS(z:Str):cQ:=Sum.inr z
inductive QD(H:Hp)(d:Ul)(W:Nat)(ps:Us)(ms:Us):Prop
 |mk(kvs lp lm:_):H d=some (.dK kvs)->bq kvs (kS Sr)=some (.int W)->bq kvs (kS So)=some (.ref lp)->bq kvs (kS Ss)=some (.ref lm)->H lp=some (.lst (ay ps))->H lm=some (.lst (ay ms))->QD H d W ps ms
inductive QE(H:Hp)(l:Ul)(fs:Uu):Prop
 |mk(us:_):H l=some (.lst us)->Paired (Pc H) us fs->QE H l fs
variable{H:Hp}
def bS{p l:Ul}{o:HO}(g:OX H p)(e:H l=some o)(h:∀x y z,o≠o0 x y z):l≠p:=by
 rintro rfl;obtain⟨x,y,z,e'⟩:=g;rw[e]at e';exact h x y z (Lc e')
def cJ(zs:Us)(x y z:Int):HO.lst (ay zs)≠o0 x y z:=by
 intro e;have:=HO.lst.inj e;cases zs with
 |nil=>cases this
 |cons a r=>cases this
def rW{us:Uv}{fs:Uu}(h:Paired (Pc H) us fs)(x y z:Int):HO.lst us≠o0 x y z:=by
 intro e;have:=HO.lst.inj e;cases h with
 |nil=>cases this
 |cons a r=>
  obtain⟨p,rfl,_⟩:=a;cases this
variable{p:Ul}
def eQ{H H':Hp}(g:OX H p)(b:O4 p H H'):OZ H H':=fun a xs e=>b _ _ e (bS g e fun _ _ _ h=>by cases h)
variable{ps ms:Us}{W:Nat}{d:Ul}
def QD.but{H H':Hp}(h:QD H d W ps ms)(g:OX H p)(b:O4 p H H'):QD H' d W ps ms:=
 let⟨kvs,lp,lm,a1,a2,a3,a4,a5,a6⟩:=h
 ⟨kvs,lp,lm,b _ _ a1 (bS g a1 fun _ _ _ h=>by cases h),a2,a3,a4,b _ _ a5 (bS g a5 (cJ _)),b _ _ a6 (bS g a6 (cJ _))⟩
def Pc.kt2{H H':Hp}(k:OZ H H'){u:V}{x:Str×Str}(h:Pc H u x):Pc H' u x:=let⟨p,a,c⟩:=h;⟨p,a,k _ _ c⟩
def QE.but{H H':Hp}{p l:Ul}{fs:Uu}(h:QE H l fs)(g:OX H p)(b:O4 p H H'):QE H' l fs:=
 let⟨us,a1,a2⟩:=h
 ⟨us,b _ _ a1 (bS g a1 (rW a2)),bD (fun _ _ h=>Pc.kt2 (eQ g b) h) a2⟩
def QD.same{H H':Hp}(h:QD H d W ps ms)(s:OM H H'):QD H' d W ps ms:=
 let⟨kvs,lp,lm,a1,a2,a3,a4,a5,a6⟩:=h
 ⟨kvs,lp,lm,s _ _ a1,a2,a3,a4,s _ _ a5,s _ _ a6⟩
def QE.same{H H':Hp}{l:Ul}{fs:Uu}(h:QE H l fs)(s:OM H H'):QE H' l fs:=
 let⟨us,a1,a2⟩:=h
 ⟨us,s _ _ a1,bD (fun _ _ h=>Pc.kt2 (av s) h) a2⟩
def dJ(st:Str)(fs:Uu)(i:Nat):Ut:=(List.range i).filter fun j=>decide ((fs.getD j ("","")).2=st)
def aW(l:Ut):Uv:=l.map fun(n:Nat)=>V.int (n:Int)
def xr(l:Ut):aW l=(l.map fun(n:Nat)=>(n:Int)).map V.int:=by unfold aW;rw[Lz];rfl
def gh(l:Ut):(aW l).length=l.length:=by unfold aW;rw[Ky]
variable{i:Nat}
def pP{l:Ut}(h:i<l.length):(aW l)[i]?=some (.int (l[i]:Nat)):=by unfold aW;rw[KZ,KF h];rfl
variable{st:Str}
def fb{fs:Uu}{z:Str×Str}(h:fs[i]?=some z):dJ st fs (i+1)=dJ st fs i++(if z.2=st then [i]else []):=by
 unfold dJ;rw[Mo,Mq];have e:fs.getD i ("","")=z:=by rw[KP,h];rfl
 congr 1
 by_cases hz:z.2=st
 ·rw[f_ hz];show [i].filter _=_;rw[LY]
  ·rfl
  ·rw[e];exact a_ hz
 ·rw[e_ hz,Mr]
  ·rfl
  ·rw[e];simpa using hz
def ie(st:Str)(fs:Uu)(i:Nat):(dJ st fs i).length<=i:=by
 have:=List.length_filter_le (fun j=>decide ((fs.getD j ("","")).2=st)) (List.range i);rw[List.length_range]at this;exact this
def mj{fs:Uu}{j:Nat}(h:j∈dJ st fs fs.length):∃z,fs[j]?=some (z,st):=by
 obtain⟨h1,h2⟩:=Mi.mp h;have hl:=LG.mp h1;have e:fs.getD j ("","")=fs[j]:=by rw[KP,KF hl];rfl
 rw[e]at h2;have ZS:=h_ h2;refine⟨fs[j].1,?_⟩;rw[KF hl,<-ZS]
variable{Q:V->Hp->Prop}{a b:Ul}{K:ZF}
def pQ{l:Ut}(ha:H a=some (.lst (aW l)))(hb:H b=some (.lst []))(q:Q (.bl (!decide (l=[]))) H):Rf K (.ref a) (.ref b) H Q:=by
 rw[xr]at ha;refine⟨_,_,Rp (OO.of ha),.lst (OO.of hb) .nil,P0 _,rfl,Ll (Nat.min_le_right _ _) (by simp[PyData.depth,PyData.depthAll]),?_⟩;have e:PyData.eqv (Rk (l.map fun(n:Nat)=>(n:Int))) (.list [])=decide (l=[]):=by
  unfold Rk;cases l with
  |nil=>simp[PyData.eqv,PyData.eqvAll]
  |cons x r=>simp[PyData.eqv,PyData.eqvAll]
 rw[e];exact q
def mo:∀(ns:Us),Po K H (ay ns) (ns.map PyData.str)
 |[]=>.nil
 |n::r=>.cons (.str n) (mo r)
def zF{z:Str}(h:OY z):EG z=true:=by
 unfold EG;simp only[PyData.canLay0];unfold PyData.strOk;rw[Array.all_eq_true'];intro c hc;have:=h.2.2.2 c (by simpa using hc);exact a_ zo
def rX:∀{ns:Us},(∀z∈ns,EG z=true)->PyData.canLayAll0 (ns.map PyData.str)=true
 |[],_=>rfl
 |n::r,h=>by
  show((PyData.str n).canLay0&&PyData.canLayAll0 (r.map PyData.str))=true;rw[rX fun z hz=>h z (KM _ hz)];have:(PyData.str n).canLay0=true:=h n KB;rw[this];rfl
def pR{l:Us}(hn:∀z∈l,OY z)(ha:H a=some (.lst (ay l)))(hb:H b=some (.lst []))(q:Q (.bl (!decide (l=[]))) H):Rf K (.ref a) (.ref b) H Q:=by
 refine⟨.list (l.map PyData.str),_,.lst (OO.of ha) (mo l),.lst (OO.of hb) .nil,rX fun z hz=>zF (hn z hz),rfl,by simp[PyData.depth,PyData.depthAll],?_⟩;have e:PyData.eqv (.list (l.map PyData.str)) (.list [])=decide (l=[]):=by
  cases l with
  |nil=>simp[PyData.eqv,PyData.eqvAll]
  |cons x r=>simp[PyData.eqv,PyData.eqvAll]
 rw[e];exact q
def cB(L:Us)(st:Str)(fs:Uu)(b:Bool)(n:Nat):Prop:=if b=true then ∃z,fs[n]?=some (z,st)else n<L.length
def gj(ps ms:Us)(st:Str):Us:=if st=Sn then ps else ms
inductive mv(vs:Uv)(H:Hp)(Q:VK)(Z3:XK):Prop
 |mk(p st d lf W ps ms fs:_):vs=[.ref p,.str st,.ref d,.ref lf]->OX H p->QD H d W ps ms->QE H lf fs->fs.length<=3->(st=Sn\/st=Su)->1<=(gj ps ms st).length->(gj ps ms st).length<=10->(∀v H' b n,OX H' p->O4 p H H'->Qy H' b n v->cB (gj ps ms st) st fs b n->Q v H')->mv vs H Q Z3
def iK(h:QD H d W ps ms)(UK:st=Sn\/st=Su):∃l,Pj H d (.str (st++"s")) (some (.ref l))/\H l=some (.lst (ay (gj ps ms st))):=by
 obtain⟨kvs,lp,lm,a1,a2,a3,a4,a5,a6⟩:=h;rcases UK with rfl|rfl
 ·refine⟨lp,?_,?_⟩
  ·have:((Sn:Str)++("s":Str))=So:=by decide +kernel
   rw[this];exact bA a1 a3
  ·unfold gj;rw[f_ rfl];exact a5
 ·refine⟨lm,?_,?_⟩
  ·have:((Su:Str)++("s":Str))=Ss:=by decide +kernel
   rw[this];exact bA a1 a4
  ·unfold gj;rw[e_ zk];exact a6
variable{P:Uo}{w:Up}{K:ZF}{mg:Str->Option Uk}{base:Heap}{C fi aS aE aF aO:Ul}{t1 t2 t3 t4 t5 tM:Tok}
def Q8:az [Sj,SJ,Si,Sk,"_law_by"] [Sj,SJ,Si,Sk] (ak vM):=cv zk
def JE:(["_law_j",SW,"_law_its",SJ]:Us).Nodup:=by decide +kernel
inductive zG(p:Ul)(st:Str)(d:Ul)(lf:Ul)(H:Hp)(fs:Uu)(σ:St)(H':Hp):Prop
 |mk(lb:_):σ=[some (.ref p),some (.str st),some (.ref d),some (.ref lf),some (.ref lb)]->OX H' p->O4 p H H'->H' lb=some (.lst (aW (dJ st fs fs.length)))->p≠lb->dJ st fs fs.length≠[]->zG p st d lf H fs σ H'
inductive zH(p:Ul)(st:Str)(d:Ul)(lf:Ul)(H:Hp)(σ:St)(H':Hp):Prop
 |mk(lb:_):σ=[some (.ref p),some (.str st),some (.ref d),some (.ref lf),some (.ref lb)]->OX H' p->O4 p H H'->zH p st d lf H σ H'
def Cm{f:Ul}{fd:Ur}(F:O0 K "_law_sel" "_law_sel" vM f fd)(B:Bl mg)(B3:Ca mg)(J':Fn P w K mg base "_law_take" 1 [Sj,SB] eO):OQ P w K mg base bQ 2 f fd [Sj,SJ,Si,Sk] mv:=by
 have ZZ:=Q8
 walk_at "o"
 ·obtain⟨p,st,d,lf,W,ps,ms,fs,rfl,hp,hT,hF,h3,UK,h1,Yf,q⟩:=h;have hu:=eo hr;have sz:(100000:Nat)<=sizeLine:=by decide
  refine⟨_,ac (gF (i:=4) Q8.nd rfl rfl (N':=["_law_j",SW,"_law_its",SJ]) (ix:=[none,none,none,some 1]) (sc0:=ak vM) (N:=[Sj,SJ,Si,Sk,"_law_by"]) rfl zk (gX rfl B3.enumerate (aa (pv 3) ab))
     (fun C' cl s H fp=>dz (K:=K) (n:=2) rfl rfl (aA (cq (i:=0) JE) (aA (dz (K:=K) (n:=2) rfl rfl (aA (cq (i:=1) JE) (aA (cq (i:=2) JE) br))) br))) (fun _ _ _ _ _=>jx (aq aX (pv 2) (pv 3))) (fun C' cl s H fp=>pv 0))
   (ac (aT (dh (zG p st d lf H fs) (zH p st d lf H) (PW.pt (ck (aq (PB hr) (pv 4) (aP ab)) (bM (aq aX (ax J' hr rfl (aa (pv 0) (aa af ab))) af)))))
     (ag (aw (aK (aa ai (aa (aB aU (pv 4) (ax J' hr rfl (aa (pv 0) (aa (aI aL (by rfl) B.len KW (aa (pv 4) ab)) ab)))) ab))))) aG)
   (ag (aw (aK (aa ai (aa (ax J' hr rfl (aa (pv 0) (aa (aI aL (by rfl) B.len KW (aa (bx hu (pv 2) (aH aR (pv 1) ai)) ab)) ab))) ab)))))),?_⟩
  obtain⟨us,Vt,ML⟩:=id hF;have lu:=ML.length;refine⟨_,rfl,lf,rfl,⟨_,OO.of Vt⟩,?_⟩;refine kC (K:=K) (l:=lf) (xs:=us) (fun i ys H'=>OM H H'/\ys=aW (dJ st fs i)) ⟨OM.refl _,rfl⟩ (fun i ys H' hi⟨s',e'⟩=>⟨OO.of (s' _ _ Vt),by rw[e',gh];have:=ie st fs i;lia⟩) ?_ ?_
  ·rintro i x ys H1 T1 hx nT ⟨s1,rfl⟩;obtain⟨z,hz,pf,rfl,U8⟩:=dB ML hx;have s2:=aj (o:=.tup [.int (i:Int),.ref pf]) nT;have MO:=s1.trans s2;have MP:=(Kx.mp hx).1;refine⟨T1,_,rfl,ON.of ae,rfl,_,_,rfl,_,_,rfl,⟨pf,_,rfl,ON.of (MO _ _ U8),rfl,_,_,rfl,_,_,rfl,rfl,rfl,⟨rfl,trivial⟩,?_⟩⟩;refine⟨_,rfl,_,rfl,rfl,_,rfl,ce (fun h=>?_) (fun h=>?_)⟩
   ·have h':z.2=st:=V.str.inj (h_ h);refine⟨_,rfl,Nx.mk MP ⟨MO,?_⟩⟩;rw[fb hz,f_ h'];unfold aW;rw[KJ];rfl
   ·have h':¬z.2=st:=fun e=>h (a_ (by rw[e]));refine Nx.mk MP ⟨MO,?_⟩;rw[fb hz,e_ h',Lm]
  ·rintro ys H1 ⟨s1,rfl⟩ lb VB;rw[lu];have ZD:=ie st fs fs.length;generalize zz:aM H1 lb _=H2;have s2:=(nw VB zz).1;have e2:H2 lb=some (.lst (aW (dJ st fs fs.length))):=(nw VB zz).2;clear zz;have UA:p≠lb:=(hp.same s1).ne VB;have Vp:=s1.trans s2;refine⟨?_,?_,?_⟩
   ·rintro H4 ⟨Wo,e,g4,b4,e4,pl4,MM⟩;have VM:0<(dJ st fs fs.length).length:=LV.mpr MM;cases e;refine⟨_,rfl,_,rfl,_,rfl,lb,_,rfl,.inl (OO.of e4),?_⟩;rw[gh];refine⟨p,(dJ st fs fs.length).length,rfl,g4,VM,zo,fun j H5 hj g5 b5=>?_⟩;obtain⟨z,hz⟩:=mj (Lo hj);refine⟨lb,_,_,_,rfl,rfl,OO.of (b5 _ _ e4 pl4.symm),bf (pP hj),OT,fun t nt=>?_⟩;have s6:=aj (o:=.tup [.str "by",.int ((dJ st fs fs.length)[j]:Nat)]) nt;refine q _ _ true (dJ st fs fs.length)[j] (g5.same s6) ((b4.trans b5).same s6) ⟨t,rfl,ae⟩ ?_;unfold cB;rw[f_ rfl];exact⟨z,hz⟩
   ·rintro H4 ⟨Wo,e,g4,b4⟩;cases e;have hT4:=hT.but hp b4;obtain⟨l,dg,el⟩:=iK hT4 UK;have UO:st.length+("s":Str).length<=sizeLine:=by
     rcases UK with rfl|rfl<;>decide +kernel
    refine⟨_,rfl,_,rfl,_,rfl,_,_,rfl,rfl,UO,d,_,rfl,dg,l,_,rfl,.inl (OO.of el),?_⟩;rw[dm];refine⟨p,(gj ps ms st).length,rfl,g4,zo,zo,fun j H5 hj g5 b5=>?_⟩;refine⟨OT,fun t nt=>?_⟩;have s6:=aj (o:=.tup [.str "is",.int (j:Nat)]) nt;refine q _ _ false j (g5.same s6) ((b4.trans b5).same s6) ⟨t,rfl,ae⟩ ?_;unfold cB;rw[e_ zd];exact hj
   ·refine⟨_,rfl,OT,fun le V8=>?_⟩;generalize zz:aM H2 le _=H3;have⟨s3,e3⟩:=nw V8 zz;clear zz;have VA:=Vp.trans s3;have YK:=hp.same VA;refine pQ (s3 _ _ e2) e3 ⟨_,rfl,?_⟩;refine ce (fun h=>?_) (fun h=>?_)
    ·have MM:dJ st fs fs.length≠[]:=by
      intro e;rw[e]at h;simp at h
     refine⟨_,rfl,p,2,rfl,YK,zd,zd,fun r H4 MF g4 b4=>?_⟩;have XO:O4 p H H4:=(dS VA).trans b4;refine⟨rfl,_,rfl,ce (fun h=>?_) (fun h=>?_)⟩
     ·exact⟨lb,rfl,g4,XO,b4 _ _ (s3 _ _ e2) UA.symm,UA,MM⟩
     ·exact⟨lb,rfl,g4,XO⟩
    ·exact bP ⟨lb,rfl,YK,dS VA⟩
end
def bj(W:Nat)(ps ms:Us)(fs:Uu):Nat->Ed->Prop
 |_,.num n=>n<2^W
 |_,.fld j=>∃z:Str,fs[j]?=some (z,("number":Str))
 |_,.pl b n=>cB ps Sn fs b n
 |_,.mk b n=>cB ms Su fs b n
 |0,.cell _=>False
 |m+1,.cell e=>bj W ps ms fs m e
 |0,.two _ _ _=>False
 |m+1,.two o x y=>o∈O8/\bj W ps ms fs m x/\bj W ps ms fs m y
structure Lx(H:Hp)(p d lf:Ul)(W:Nat)(ps ms:Us)(fs:Uu):Prop where
 g:OX H p
 t:QD H d W ps ms
 f:QE H lf fs
 f3:fs.length<=3
 w4:4<=W
 w24:W<=24
 p1:1<=ps.length
 p10:ps.length<=10
 m10:ms.length<=10
 mn:∀z∈ms,cP z
 pn:∀z∈ps,cP z
def Lx.but(h:Lx H p d lf W ps ms fs)(g:OX H' p)(b:O4 p H H'):Lx H' p d lf W ps ms fs:=⟨g,h.t.but h.g b,h.f.but h.g b,h.f3,h.w4,h.w24,h.p1,h.p10,h.m10,h.mn,h.pn⟩
def cY:gj ps ms Sn=ps:=f_ rfl
def dC:gj ps ms Su=ms:=e_ zk
inductive JA(p:Ul)(d:Ul)(lf:Ul)(fs:Uu)(H:Hp)(σ:St)(H':Hp):Prop
 |mk(lb:_)(r:Nat):σ=[some (.ref p),some (.ref d),some (.ref lf),some (.ref lb),some (.int r)]->OX H' p->O4 p H H'->p≠lb->H' lb=some (.lst (aW (dJ "number" fs fs.length)))->JA p d lf fs H σ H'
def jc(h:bj W ps ms fs 0 e):∀m,bj W ps ms fs m e:=by
 intro m;cases e<;>cases m<;>first|exact h|(simp[bj]at h⊢;done)|(simp[bj]at h⊢;exact h)
inductive pS(vs:Uv)(H:Hp)(Q:VK)(Z3:XK):Prop
 |mk(p d lf W ps ms fs:_):vs=[.ref p,.ref d,.ref lf]->Lx H p d lf W ps ms fs->(∀v H' e,OX H' p->O4 p H H'->Qc H' e v->(∀m,bj W ps ms fs m e)->Q v H')->pS vs H Q Z3
inductive rY(m:Nat)(vs:Uv)(H:Hp)(Q:VK):Prop
 |mk(p d lf W ps ms fs:_)(k:Nat):vs=[.ref p,.ref d,.ref lf,.int k]->Lx H p d lf W ps ms fs->1<=k->k<=m+1->(∀v H' e,OX H' p->O4 p H H'->Qc H' e v->bj W ps ms fs (k-1) e->Q v H')->rY m vs H Q
def kD :Nat->Sp
 |0=>jN
 |m+1=>fun vs H Q _=>rY m vs H Q
def Fs(w:Nat):(1*2^((w:Int)).toNat:Int)=((2^w:Nat):Int):=by
 rw[Lu,RE,Int.natCast_pow];rfl
section
def Qu:az [Sj,Si,Sk,"_law_numbers",Ti] [Sj,Si,Sk] (ak oP):=cv zk
def xt:(["_law_j",SW,SJ]:Us).Nodup:=by decide +kernel
def zI(F:O0 K "_law_atom" "_law_atom" oP f fd)(B:Bl mg)(B3:Ca mg)(J':Fn P w K mg base "_law_take" 1 [Sj,SB] eO)(SL:Fn P w K mg base "_law_sel" 2 [Sj,SJ,Si,Sk] mv):OQ P w K mg base bQ 3 f fd [Sj,Si,Sk] pS:=by
 have ZZ:=Qu
 walk_at "o"
 ·obtain⟨p,d,lf,W,ps,ms,fs,rfl,hL,q⟩:=h;have hu:=eo hr;have sz:(100000:Nat)<=sizeLine:=by decide
  have h3:=hL.f3;refine⟨_,ac (gF (i:=3) Qu.nd rfl rfl (N':=["_law_j",SW,SJ]) (ix:=[none,none,none]) (sc0:=ak oP) (N:=[Sj,Si,Sk,"_law_numbers",Ti]) rfl zk (gX rfl B3.enumerate (aa (pv 2) ab))
     (fun C' cl s H fp=>dz (K:=K) (n:=2) rfl rfl (aA (cq (i:=0) xt) (aA (dz (K:=K) (n:=2) rfl rfl (aA (cq (i:=1) xt) (aA (cq (i:=2) xt) br))) br))) (fun _ _ _ _ _=>jx (aq aX (pv 2) ai)) (fun C' cl s H fp=>pv 0))
   (bN (JA p d lf fs H) (bL (i:=4) Qu.nd (ax J' hr.m rfl (aa (pv 0) (aa af ab))))
   (ac (aT (dh (fun σ H'=>JA p d lf fs H σ H'/\dJ "number" fs fs.length≠[]) (JA p d lf fs H) (PW.pt (ck (aq aX (pv 4) af) (bM (aq (PB hr) (pv 3) (aP ab))))))
     (ag (aw (aK (aa ai (aa (aB aU (pv 3) (ax J' hr.m rfl (aa (pv 0) (aa (aI aL (by rfl) B.len KW (aa (pv 3) ab)) ab)))) ab))))) aG)
   (ac (aT (dh (fun σ H'=>JA p d lf fs H σ H'/\ms≠[]) (JA p d lf fs H) (PW.pt (ck (aq aX (pv 4) af) (bM (aq (PB hr) (bx hu (pv 1) ai) (aP ab))))))
     (ag (aw (aK (aa ai (aa (ax SL hr rfl (aa (pv 0) (aa ai (aa (pv 1) (aa (pv 2) ab))))) ab))))) aG)
   (ac (aT (aq aX (pv 4) af) (ag (aw (aK (aa ai (aa (ax J' hr.m rfl (aa (pv 0) (aa af ab))) ab))))) aG)
   (ac (aT (aq aX (pv 4) af) (ag (aw (aK (aa ai (aa (ax J' hr.m rfl (aa (pv 0) (aa (aH gq af (bx hu (pv 1) ai)) ab))) ab))))) aG)
   (ag (aw (aK (aa ai (aa (ax SL hr rfl (aa (pv 0) (aa ai (aa (pv 1) (aa (pv 2) ab))))) ab)))))))))),?_⟩
  obtain⟨us,Vt,ML⟩:=id hL.f;have lu:=ML.length;refine⟨_,rfl,lf,rfl,⟨_,OO.of Vt⟩,?_⟩;refine kC (K:=K) (l:=lf) (xs:=us) (fun i ys H'=>OM H H'/\ys=aW (dJ "number" fs i)) ⟨OM.refl _,rfl⟩ (fun i ys H' hi⟨s',e'⟩=>⟨OO.of (s' _ _ Vt),by rw[e',gh];have:=ie "number" fs i;lia⟩) ?_ ?_
  ·rintro i x ys H1 T1 hx nT ⟨s1,rfl⟩;obtain⟨z,hz,pf,rfl,U8⟩:=dB ML hx;have s2:=aj (o:=.tup [.int (i:Int),.ref pf]) nT;have MO:=s1.trans s2;have MP:=(Kx.mp hx).1;refine⟨T1,_,rfl,ON.of ae,rfl,_,_,rfl,_,_,rfl,⟨pf,_,rfl,ON.of (MO _ _ U8),rfl,_,_,rfl,_,_,rfl,rfl,rfl,trivial,?_⟩⟩;refine⟨_,rfl,rfl,_,rfl,ce (fun h=>?_) (fun h=>?_)⟩
   ·have h':z.2="number":=V.str.inj (h_ h);refine⟨_,rfl,Nx.mk MP ⟨MO,?_⟩⟩;rw[fb hz,f_ h'];unfold aW;rw[KJ];rfl
   ·have h':¬z.2="number":=fun e=>h (a_ (by rw[e]));refine Nx.mk MP ⟨MO,?_⟩;rw[fb hz,e_ h',Lm]
  ·rintro ys H1 ⟨s1,rfl⟩ lb VB;rw[lu];have ZD:=ie "number" fs fs.length;generalize zz:aM H1 lb _=H2;have s2:=(nw VB zz).1;have e2:H2 lb=some (.lst (aW (dJ "number" fs fs.length))):=(nw VB zz).2;clear zz;have UA:p≠lb:=(hL.g.same s1).ne VB;have Vp:=s1.trans s2;refine⟨?_,?_⟩
   ·rintro σ H4 ⟨lb,r,rfl,g4,b4,UA,e4⟩;refine⟨?_,?_,?_⟩
    ·rintro H5 ⟨⟨Wo,r',e,g5,b5,U0,e5⟩,MM⟩;cases e;have VM:0<(dJ "number" fs fs.length).length:=LV.mpr MM;refine⟨_,rfl,_,rfl,_,rfl,lb,_,rfl,.inl (OO.of e5),?_⟩;rw[gh];refine⟨p,(dJ "number" fs fs.length).length,rfl,g5,VM,zo,fun j H6 hj g6 b6=>?_⟩;obtain⟨z,hz⟩:=mj (Lo hj);refine⟨lb,_,_,_,rfl,rfl,OO.of (b6 _ _ e5 UA.symm),bf (pP hj),OT,fun t nt=>?_⟩;have s7:=aj (o:=.tup [.str "field",.int ((dJ "number" fs fs.length)[j]:Nat)]) nt;exact q _ _ (.fld (dJ "number" fs fs.length)[j]) (g6.same s7) ((b5.trans b6).same s7) ⟨t,rfl,ae⟩ (jc (by simp only[bj];exact⟨z,hz⟩))
    ·rintro H5 ⟨Wo,r',e,g5,b5,U0,e5⟩;cases e;refine⟨?_,?_,?_⟩
     ·rintro H6 ⟨⟨Wo,r',e,g6,b6,U0,e6⟩,MM⟩;cases e;have L6:=hL.but g6 b6;have Vs:1<=ms.length:=LV.mpr MM;refine⟨_,rfl,_,rfl,_,rfl,p,Su,d,lf,W,ps,ms,fs,rfl,L6.g,L6.t,L6.f,L6.f3,.inr rfl,by rw[dC];exact Vs,by rw[dC];exact L6.m10,fun v H7 b n g7 b7 hv hs=>⟨OT,fun t nt=>?_⟩⟩;rw[dC]at hs;have s8:=aj (o:=.tup [.str Su,v]) nt;exact q _ _ (.mk b n) (g7.same s8) ((b6.trans b7).same s8) ⟨t,v,rfl,ae,hv.kt (av s8)⟩ (jc (by simp only[bj];exact hs))
     ·rintro H6 ⟨Wo,r',e,g6,b6,U0,e6⟩;cases e;have L6:=hL.but g6 b6;refine⟨_,rfl,rfl,_,rfl,ce (fun h=>?_) (fun h=>?_)⟩
      ·refine⟨_,rfl,p,4,rfl,g6,zd,zd,fun j H7 hj g7 b7=>⟨OT,fun t nt=>?_⟩⟩;have s8:=aj (o:=.tup [.str "number",.int (j:Nat)]) nt;have h16:2^4<=2^W:=K0 zd L6.w4;exact q _ _ (.num j) (g7.same s8) ((b6.trans b7).same s8) ⟨t,rfl,ae⟩ (jc (by simp only[bj];lia))
      refine⟨_,rfl,rfl,_,rfl,ce (fun h=>?_) (fun h=>?_)⟩
      ·obtain⟨kvs,lp,lm,a1,a2,a3,a4,a5,a6⟩:=L6.t;have hw:=L6.w24;have h24:2^W<=2^24:=K0 zd hw;have VM:0<2^W:=Mt zd;refine⟨_,rfl,_,rfl,d,_,rfl,bA a1 a2,_,_,rfl,rfl,⟨zo,zo,by show(1:Int).natAbs<_;decide⟩,?_⟩;refine⟨p,2^W,d_ (fun x=>[V.ref p,V.int x]) (Fs W),g6,VM,zo,fun j H7 hj g7 b7=>⟨OT,fun t nt=>?_⟩⟩;have s8:=aj (o:=.tup [.str "number",.int (j:Nat)]) nt;exact q _ _ (.num j) (g7.same s8) ((b6.trans b7).same s8) ⟨t,rfl,ae⟩ (jc (by simp only[bj];exact hj))
      refine⟨_,rfl,_,rfl,_,rfl,p,Sn,d,lf,W,ps,ms,fs,rfl,L6.g,L6.t,L6.f,L6.f3,.inl rfl,by rw[cY];exact L6.p1,by rw[cY];exact L6.p10,fun v H7 b n g7 b7 hv hs=>⟨OT,fun t nt=>?_⟩⟩;rw[cY]at hs;have s8:=aj (o:=.tup [.str Sn,v]) nt;exact q _ _ (.pl b n) (g7.same s8) ((b6.trans b7).same s8) ⟨t,v,rfl,ae,hv.kt (av s8)⟩ (jc (by simp only[bj];exact hs))
     ·have L5:=hL.but g5 b5;refine⟨_,rfl,rfl,_,rfl,ce (fun h=>?_) (fun h=>bP ⟨lb,r,rfl,g5,b5,UA,e5⟩)⟩;obtain⟨kvs,lp,lm,a1,a2,a3,a4,a5,a6⟩:=L5.t;refine⟨_,rfl,d,_,rfl,bA a1 a4,OT,fun le V8=>?_⟩;generalize zz:aM H5 le _=H6;have⟨s6,e6⟩:=nw V8 zz;clear zz;refine pR (fun z hz=>(L5.mn z hz).1) (s6 _ _ a6) e6 ⟨_,rfl,ce (fun h=>⟨⟨lb,r,rfl,g5.same s6,b5.same s6,UA,s6 _ _ e5⟩,?_⟩) (fun h=>⟨lb,r,rfl,g5.same s6,b5.same s6,UA,s6 _ _ e5⟩)⟩;intro e;rw[e]at h;simp at h
    ·refine⟨_,rfl,rfl,_,rfl,ce (fun h=>?_) (fun h=>bP ⟨lb,r,rfl,g4,b4,UA,e4⟩)⟩;refine⟨_,rfl,OT,fun le V8=>?_⟩;generalize zz:aM H4 le _=H6;have⟨s6,e6⟩:=nw V8 zz;clear zz;refine pQ (s6 _ _ e4) e6 ⟨_,rfl,ce (fun h=>⟨⟨lb,r,rfl,g4.same s6,b4.same s6,UA,s6 _ _ e4⟩,?_⟩) (fun h=>⟨lb,r,rfl,g4.same s6,b4.same s6,UA,s6 _ _ e4⟩)⟩;intro e;rw[e]at h;simp at h
   ·refine⟨_,rfl,p,6,rfl,hL.g.same Vp,zd,zd,fun r H4 MF g4 b4=>?_⟩;exact⟨lb,r,rfl,g4,(dS Vp).trans b4,UA,b4 _ _ e2 UA.symm⟩
end
def Ft(h:i<9):([V.str "+",.str "-",.str "&",.str "|",.str "^",.str "<<",.str ">>",.str "<",.str "="]:Uv)[i]?=some (.str (O8.getD i ""))/\O8.getD i ""∈O8:=by
 have e:([V.str "+",.str "-",.str "&",.str "|",.str "^",.str "<<",.str ">>",.str "<",.str "="]:Uv)=ay O8:=rfl;have hl:i<O8.length:=h;rw[e];unfold ay;rw[KZ,KF hl,KP,KF hl];exact⟨rfl,Lo hl⟩
def DJ:Ed->PyData
 |.num n=>.tuple [.str "number",.int (n:Nat)]
 |.fld j=>.tuple [.str "field",.int (j:Nat)]
 |.pl b n=>.tuple [.str Sn,.tuple [.str (lU b),.int (n:Nat)]]
 |.mk b n=>.tuple [.str Su,.tuple [.str (lU b),.int (n:Nat)]]
 |.cell e=>.tuple [.str "cell",DJ e]
 |.two o x y=>.tuple [.str o,DJ x,DJ y]
def Cn(b:Bool):EG (lU b)=true:=by cases b<;>decide +kernel
def Co(h:o∈O8):EG o=true:=by
 have:∀z∈O8,EG z=true:=by decide +kernel
 exact this o h
def Qy.td(h:Qy H b n v):Td H v (.tuple [.str (lU b),.int (n:Nat)]):=by
 obtain⟨q,rfl,e⟩:=h;exact .tup e (.cons (.str _ (Cn b)) (.cons (.int _) .nil))
def Qc.td:∀{m:Nat}{e:Ed}{v:V},Qc H e v->bj W ps ms fs m e->Td H v (DJ e)
 |_,.num _,_,⟨p,rfl,e⟩,_=>.tup e (.cons (.str _ zk) (.cons (.int _) .nil))
 |_,.fld _,_,⟨p,rfl,e⟩,_=>.tup e (.cons (.str _ zk) (.cons (.int _) .nil))
 |_,.pl _ _,_,⟨p,u,rfl,e,h⟩,_=>.tup e (.cons (.str _ zk) (.cons h.td .nil))
 |_,.mk _ _,_,⟨p,u,rfl,e,h⟩,_=>.tup e (.cons (.str _ zk) (.cons h.td .nil))
 |0,.cell _,_,_,h=>absurd h (by simp[bj])
 |m+1,.cell e,_,⟨p,u,rfl,a,b⟩,h=>.tup a (.cons (.str _ zk) (.cons (Qc.td (m:=m) (e:=e) b (by simpa[bj]using h)) .nil))
 |0,.two _ _ _,_,_,h=>absurd h (by simp[bj])
 |m+1,.two o x y,_,⟨p,u,t,rfl,a,b,c⟩,h=>by
  have h':o∈O8/\bj W ps ms fs m x/\bj W ps ms fs m y:=by simpa[bj]using h
  exact .tup a (.cons (.str _ (Co h'.1)) (.cons (Qc.td (m:=m) b h'.2.1) (.cons (Qc.td (m:=m) c h'.2.2) .nil)))
def kE:∀{m:Nat}{e:Ed},bj W ps ms fs m e->bj W ps ms fs (m+1) e
 |0,.num _,h=>jc h _
 |_+1,.num _,h=>by simpa[bj]using h
 |0,.fld _,h=>jc h _
 |_+1,.fld _,h=>by simpa[bj]using h
 |0,.pl _ _,h=>jc h _
 |_+1,.pl _ _,h=>by simpa[bj]using h
 |0,.mk _ _,h=>jc h _
 |_+1,.mk _ _,h=>by simpa[bj]using h
 |0,.cell _,h=>absurd h (by simp[bj])
 |m+1,.cell e,h=>by
  have:=kE (m:=m) (e:=e) (by simpa[bj]using h);simpa[bj]using this
 |0,.two _ _ _,h=>absurd h (by simp[bj])
 |m+1,.two o x y,h=>by
  have h':o∈O8/\bj W ps ms fs m x/\bj W ps ms fs m y:=by simpa[bj]using h
  have h1:=kE (m:=m) h'.2.1;have h2:=kE (m:=m) h'.2.2;simp only[bj];exact⟨h'.1,h1,h2⟩
section
def Qs:az [Sj,Si,Sk,SK,Ti,"_law_op"] [Sj,Si,Sk,SK] (ak tO):=cv zk
def jd(F:O0 K "_law_expr" "_law_expr" tO f fd)(J':Fn P w K mg base "_law_take" 1 [Sj,SB] eO)(AT:Fn P w K mg base "_law_atom" 3 [Sj,Si,Sk] pS)(EX:Fn P w K mg base "_law_expr" n [Sj,Si,Sk,SK] (kD m))(hn:3<=n):OQ P w K mg base bQ (n+1) f fd [Sj,Si,Sk,SK] (kD (m+1)):=by
 have ZZ:=Qs
 walk_at "o"
 ·obtain⟨p,d,lf,W,ps,ms,fs,k,rfl,hL,hk1,VY,q⟩:=h;have ME:OU 1 _:=hr.mono zo;have Vq:OU 3 _:=hr.mono zo;refine⟨_,ac (bL (i:=4) Qs.nd (ax J' ME rfl (aa (pv 0) (aa af ab))))
   (ac (aT (dh (fun _ H'=>OX H' p/\O4 p H H') (fun _ H'=>OX H' p/\O4 p H H'/\2<=k) (PW.pt (fe (aq eR (pv 3) af) (dM (aq eR (pv 4) af))))) (ag (aw (ax AT Vq rfl (aa (pv 0) (aa (pv 1) (aa (pv 2) ab)))))) aG)
   (ac (aT (aq aX (pv 4) af) (ag (aw (aK (aa ai (aa (ax EX hr rfl (aa (pv 0) (aa (pv 1) (aa (pv 2) (aa (aH cU (pv 3) af) ab))))) ab))))) aG)
   (ac (bL (i:=5) Qs.nd (aB aU (aP (aa ai (aa ai (aa ai (aa ai (aa ai (aa ai (aa ai (aa ai (aa ai ab)))))))))) (ax J' ME rfl (aa (pv 0) (aa af ab)))))
   (ag (aw (aK (aa (pv 5) (aa (ax EX hr rfl (aa (pv 0) (aa (pv 1) (aa (pv 2) (aa (aH cU (pv 3) af) ab))))) (aa (ax EX hr rfl (aa (pv 0) (aa (pv 1) (aa (pv 2) (aa (aH cU (pv 3) af) ab))))) ab))))))))),?_⟩
  refine⟨_,rfl,p,6,rfl,hL.g,zd,zd,fun r H1 MF g1 b1=>?_⟩;refine⟨?_,?_,?_⟩
  ·rintro H2 ⟨g2,b2⟩;exact⟨_,rfl,_,rfl,_,rfl,p,d,lf,W,ps,ms,fs,rfl,hL.but g2 b2,fun v H3 e g3 b3 hv he=>q v H3 e g3 (b2.trans b3) hv (he _)⟩
  ·rintro H2 ⟨g2,b2,WU⟩;have L2:=hL.but g2 b2;obtain⟨k',rfl⟩:∃k',k=k'+2:=⟨k-2,zo⟩;have ek:((k'+2:Nat):Int)-1=((k'+1:Nat):Int):=by lia
   cases m with
   |zero=>lia
   |succ m=>
    refine⟨_,rfl,rfl,_,rfl,ce (fun h=>?_) (fun h=>?_)⟩
    ·refine⟨_,rfl,_,rfl,_,rfl,_,rfl,_,_,rfl,rfl,?_⟩;refine⟨p,d,lf,W,ps,ms,fs,k'+1,d_ (fun x=>[V.ref p,V.ref d,V.ref lf,V.int x]) ek,L2,zo,zo,fun v H3 e g3 b3 hv he=>⟨OT,fun t nt=>?_⟩⟩;have s4:=aj (o:=.tup [.str "cell",v]) nt;exact q _ _ (.cell e) (g3.same s4) ((b2.trans b3).same s4) ⟨t,v,rfl,ae,hv.kt (av s4)⟩ (by show bj W ps ms fs (k'+1) (.cell e);simp only[bj];exact he)
    refine⟨OT,fun lo no=>?_⟩;generalize zz:aM H2 lo _=H3;have⟨s3,e3⟩:=nw no zz;clear zz;have plo:p≠lo:=g2.ne no;refine⟨_,rfl,p,9,rfl,g2.same s3,zd,zd,fun oi H4 ho g4 b4=>?_⟩;obtain⟨UL,UD⟩:=Ft ho;refine⟨lo,_,_,_,rfl,rfl,OO.of (b4 _ _ e3 plo.symm),bf UL,?_⟩;have XO:O4 p H H4:=(b2.same s3).trans b4;have L4:=hL.but g4 XO;refine⟨_,rfl,_,rfl,_,rfl,_,rfl,_,rfl,_,_,rfl,rfl,?_⟩;refine⟨p,d,lf,W,ps,ms,fs,k'+1,d_ (fun x=>[V.ref p,V.ref d,V.ref lf,V.int x]) ek,L4,zo,zo,fun v5 H5 e5 g5 b5 hv5 he5=>?_⟩;have L5:=L4.but g5 b5;refine⟨_,rfl,_,rfl,_,rfl,_,rfl,_,_,rfl,rfl,?_⟩;refine⟨p,d,lf,W,ps,ms,fs,k'+1,d_ (fun x=>[V.ref p,V.ref d,V.ref lf,V.int x]) ek,L5,zo,zo,fun v6 H6 e6 g6 b6 hv6 he6=>⟨OT,fun t nt=>?_⟩⟩;have s7:=aj (o:=.tup [.str (O8.getD oi ""),v5,v6]) nt;exact q _ _ (.two (O8.getD oi "") e5 e6) (g6.same s7) (((XO.trans b5).trans b6).same s7) ⟨t,v5,v6,rfl,ae,(hv5.kt (eQ g5 b6)).kt (av s7),hv6.kt (av s7)⟩ (by show bj W ps ms fs (k'+1) (.two _ e5 e6);simp only[bj];exact⟨UD,he5,he6⟩)
  ·refine⟨_,rfl,_,_,rfl,rfl,_,rfl,ce (fun h=>?_) (fun h=>?_)⟩
   ·exact fC ⟨g1,b1⟩
   ·have WU:2<=k:=by
     have:¬((k:Int)<2):=fun e=>h (a_ e);lia
    refine⟨_,rfl,_,_,rfl,rfl,_,rfl,ce (fun h=>?_) (fun h=>?_)⟩
    ·exact⟨g1,b1⟩
    ·exact⟨g1,b1,WU⟩
end
def Sd.isCell:Sd->Bool
 |.cell _ _=>true
 |_=>false
def gy(W:Nat)(ps ms:Us)(fs:Uu)(m:Nat):Sd->Prop
 |.cell a e=>bj W ps ms fs (m-1) a/\bj W ps ms fs m e
 |.pl b n e=>cB ps Sn fs b n/\bj W ps ms fs m e
 |.mk b n e=>cB ms Su fs b n/\bj W ps ms fs m e
def Kd:Sd->PyData
 |.cell a e=>.tuple [.str "cell",DJ a,DJ e]
 |.pl b n e=>.tuple [.str Sn,.tuple [.str (lU b),.int (n:Nat)],DJ e]
 |.mk b n e=>.tuple [.str Su,.tuple [.str (lU b),.int (n:Nat)],DJ e]
def Ke:Sd->Str
 |.cell _ _=>"cell"
 |.pl _ _ _=>Sn
 |.mk _ _ _=>Su
def zJ(g:Sd):decide (V.str (Ke g)=V.str "cell")=g.isCell:=by
 cases g with
 |cell a e=>exact a_ rfl
 |pl b n e=>exact b_ fun e=>absurd (V.str.inj e) (by show(Sn:Str)≠"cell";decide +kernel)
 |mk b n e=>exact b_ fun e=>absurd (V.str.inj e) (by show(Su:Str)≠"cell";decide +kernel)
def Pk.at(h:Pk H g v):∃p r,v=.ref p/\H p=some (.tup (.str (Ke g)::r)):=by
 cases g with
 |cell a e=>obtain⟨p,u,t,a,b,_⟩:=h;exact⟨p,_,a,b⟩
 |pl b n e=>obtain⟨p,u,t,a,b,_⟩:=h;exact⟨p,_,a,b⟩
 |mk b n e=>obtain⟨p,u,t,a,b,_⟩:=h;exact⟨p,_,a,b⟩
def Pk.td(h:Pk H g v)(ho:gy W ps ms fs m g):Td H v (Kd g):=by
 cases g with
 |cell a e=>obtain⟨p,u,t,rfl,b,c,d⟩:=h;exact .tup b (.cons (.str _ zk) (.cons (c.td ho.1) (.cons (d.td ho.2) .nil)))
 |pl b n e=>obtain⟨p,u,t,rfl,b,c,d⟩:=h;exact .tup b (.cons (.str _ zk) (.cons c.td (.cons (d.td ho.2) .nil)))
 |mk b n e=>obtain⟨p,u,t,rfl,b,c,d⟩:=h;exact .tup b (.cons (.str _ zk) (.cons c.td (.cons (d.td ho.2) .nil)))
def zK:∀{us:Uv}{s:List Sd},Paired (fun v g=>Pk H g v) us s->(∀g∈s,gy W ps ms fs m g)->O5 H us (s.map Kd)
 |_,_,.nil,_=>.nil
 |_,_,.cons h t,ho=>.cons (Pk.td h (ho _ KB)) (zK t fun g hg=>ho g (KM _ hg))
def zL:∀{us:Uv}{ds:List PyData},O5 H us ds->us.length=ds.length
 |_,_,.nil=>rfl
 |_,_,.cons _ t=>by rw[KC,KC,zL t]
def Cp(ha:H a=some (.lst us))(ht:O5 H us ds)(hb:H b=some (.lst []))(q:Q (.bl (decide (us.length=0))) H):Rq K (.ref a) (.ref b) H Q:=by
 have hl:=zL ht;refine⟨.list ds,_,.lst (OO.of ha) ht.dt,.lst (OO.of hb) .nil,ht.lay,rfl,Ll (Nat.min_le_right _ _) (by simp[PyData.depth,PyData.depthAll]),?_⟩;have e:PyData.eqv (.list ds) (.list [])=decide (us.length=0):=by
  rw[hl];cases ds with
  |nil=>simp[PyData.eqv,PyData.eqvAll]
  |cons x r=>simp[PyData.eqv,PyData.eqvAll]
 rw[e];exact q
inductive pT(m:Nat)(vs:Uv)(H:Hp)(Q:VK)(Z3:XK):Prop
 |mk(p d lf W ps ms fs:_)(k:Nat):vs=[.ref p,.ref d,.ref lf,.int k]->Lx H p d lf W ps ms fs->2<=k->k<=m->(∀t us(s:List Sd)H',OX H' p->O4 p H H'->H' t=some (.tup us)->Paired (fun v g=>Pk H' g v) us s->s.length<=4->(s.filter Sd.isCell).length<=1->(∀g∈s,gy W ps ms fs (k-1) g)->Q (.ref t) H')->pT m vs H Q Z3
def Cq(h:r<8):([V.int 0,.int 1,.int 1,.int 2,.int 2,.int 3,.int 1,.int 4]:Uv)[r]?=some (.int (([0,1,1,2,2,3,1,4]:Ut).getD r 0:Nat))/\([0,1,1,2,2,3,1,4]:Ut).getD r 0<=4:=by
 have:∀r<8,([0,1,1,2,2,3,1,4]:Ut).getD r 0<=4:=by decide
 refine⟨?_,this r h⟩
 match r,h with
 |0,_=>rfl
 |1,_=>rfl
 |2,_=>rfl
 |3,_=>rfl
 |4,_=>rfl
 |5,_=>rfl
 |6,_=>rfl
 |7,_=>rfl
structure SI(H:Hp)(p ls:Ul)(W:Nat)(ps ms:Us)(fs:Uu)(m i:Nat)(H':Hp):Prop where
 g:OX H' p
 b:O4 p H H'
 x:∃us,∃s:List Sd,H' ls=some (.lst us)/\Paired (fun v g=>Pk H' g v) us s/\s.length=i/\(s.filter Sd.isCell).length<=1/\∀g∈s,gy W ps ms fs m g
def SI.next{H H':Hp}{p ls:Ul}{W:Nat}{ps ms:Us}{fs:Uu}{m i:Nat}(h:SI H p ls W ps ms fs m i H')(nl:H ls=none)(pl:p≠ls){us:Uv}{s:List Sd}(e:H' ls=some (.lst us))(hp:Paired (fun v g=>Pk H' g v) us s)(hl:s.length=i)(hc:(s.filter Sd.isCell).length<=1)(ho:∀g∈s,gy W ps ms fs m g){v:V}{g:Sd}(hv:Pk H' g v)(hg:gy W ps ms fs m g)(hgc:g.isCell=true->s.filter Sd.isCell=[]):SI H p ls W ps ms fs m (i+1) (aM H' ls (.lst (us++[v]))):=by
 have k:OZ H' (aM H' ls (.lst (us++[v]))):=fun b xs eb=>by
  rw[au]
  ·exact eb
  ·rintro rfl;rw[e]at eb;cases eb
 refine⟨?_,?_,us++[v],s++[g],ae,eu (R:=fun v' g=>Pk (aM H' ls (.lst (us++[v]))) g v') (hv.kt k) (bD (R:=fun v g=>Pk H' g v) (fun _ _ h=>Pk.kt k h) hp),by rw[Kz,hl];rfl,?_,?_⟩
 ·obtain⟨x,y,z,ex⟩:=h.g;exact⟨x,y,z,by rw[au pl];exact ex⟩
 ·intro b o eb nb;rw[au (ao eb nl)];exact h.b _ _ eb nb
 ·rw[Mq,Kz];cases ZI:g.isCell with
  |true=>rw[hgc ZI];simp[ZI]
  |false=>simp[ZI];lia
 ·intro g' U_;rcases La.mp U_ with h'|h'
  ·exact ho g' h'
  ·rw[Lb.mp h'];exact hg
def SI.but(h:SI H p ls W ps ms fs m i H1)(pl:p≠ls)(g:OX H2 p)(b:O4 p H1 H2):SI H p ls W ps ms fs m i H2:=by
 obtain⟨us,s,e,hp,h1,h2,h3⟩:=h.x;exact⟨g,h.b.trans b,us,s,b _ _ e pl.symm,bD (R:=fun v g=>Pk H1 g v) (fun _ _ h'=>Pk.kt (eQ h.g b) h') hp,h1,h2,h3⟩
section
def Pz:az [Sj,Si,Sk,SK,SB,"_law_sets_here",Tk,Ti,"_law_value"] [Sj,Si,Sk,SK] (ak oQ):=cv zk
def Hx:(["_law_one"]:Us).Nodup:=by decide +kernel
inductive JS(H:Hp)(p:Ul)(d:Ul)(lf:Ul)(ls:Ul)(W:Nat)(ps:Us)(ms:Us)(fs:Uu)(k:Nat)(B':Nat)(m:Nat)(i:Nat)(σ:St)(H':Hp):Prop
 |mk(r:Nat)(v:V)(e:Ed):σ=[some (.ref p),some (.ref d),some (.ref lf),some (.int k),some (.int B'),some (.ref ls),some (.int (i:Nat)),some (.int r),some v]->SI H p ls W ps ms fs m i H'->Qc H' e v->bj W ps ms fs m e->JS H p d lf ls W ps ms fs k B' m i σ H'
inductive mw(H:Hp)(p:Ul)(d:Ul)(lf:Ul)(W:Nat)(ps:Us)(ms:Us)(fs:Uu)(k:Nat)(σ:St)(H':Hp):Prop
 |mk(ls B' i:_):JS H p d lf ls W ps ms fs k B' (k-1) i σ H'->H ls=none->p≠ls->i<4->mw H p d lf W ps ms fs k σ H'
inductive zM(H:Hp)(p:Ul)(d:Ul)(lf:Ul)(W:Nat)(ps:Us)(ms:Us)(fs:Uu)(k:Nat)(σ:St)(H':Hp):Prop
 |mk(ls B' i:_):JS H p d lf ls W ps ms fs k B' (k-1) i σ H'->H ls=none->p≠ls->i<4->(∃us,∃s:List Sd,H' ls=some (.lst us)/\Paired (fun v g=>Pk H' g v) us s/\s.length=i/\s.filter Sd.isCell=[]/\∀g∈s,gy W ps ms fs (k-1) g)->zM H p d lf W ps ms fs k σ H'
def zN(F:O0 K "_law_sets" "_law_sets" oQ f fd)(B:Bl mg)(J':Fn P w K mg base "_law_take" 1 [Sj,SB] eO)(SL:Fn P w K mg base "_law_sel" 2 [Sj,SJ,Si,Sk] mv)(EX:Fn P w K mg base "_law_expr" n [Sj,Si,Sk,SK] (kD (m+1)))(hn:2<=n):OQ P w K mg base bQ (n+1) f fd [Sj,Si,Sk,SK] (pT (m+1)):=by
 have ZZ:=Pz
 walk_at "o"
 ·obtain⟨p,d,lf,W,ps,ms,fs,k,rfl,hL,WU,VY,q⟩:=h;have hu:=eo hr;have ME:OU 1 _:=hr.mono zo;have MF:OU 2 _:=hr.mono zo;have sz:(100000:Nat)<=sizeLine:=by decide
  refine⟨_,ac (bL (i:=4) Pz.nd (aB aU (aP (aa af (aa af (aa af (aa af (aa af (aa af (aa af (aa af ab))))))))) (ax J' ME rfl (aa (pv 0) (aa af ab)))))
   (ac (bL (i:=5) Pz.nd (aP ab))
   (ac (cc g_ rfl (dF rfl B.range (aa (pv 4) ab)) (cq (i:=6) Pz.nd)
    (ac (bL (i:=7) Pz.nd (ax J' ME rfl (aa (pv 0) (aa af ab))))
    (ac (bL (i:=8) Pz.nd (ax EX hr rfl (aa (pv 0) (aa (pv 1) (aa (pv 2) (aa (pv 3) ab))))))
    (ag (aT (dh (zM H p d lf W ps ms fs k) (mw H p d lf W ps ms fs k) (PW.pt (ck (aq aX (pv 7) af) (bM (aq (Rh hr) (fk (N':=["_law_one"]) (ix:=[none]) (sc0:=ak oQ) (N:=[Sj,Si,Sk,SK,SB,"_law_sets_here",Tk,Ti,"_law_value"]) rfl zk (cm (pv 5))
      (fun C' cl s H fp=>cq (i:=0) Hx) (fun _ _ _ _ _=>jx (aq aX (aB (kr (K:=K) rfl) (pv 0) af) ai)) (fun C' cl s H fp=>pv 0)) (aP ab))))))
     (ag (aQ (ci KU KS KR bv (pv 5) (aa (aK (aa ai (aa (ax EX hr rfl (aa (pv 0) (aa (pv 1) (aa (pv 2) (aa (aH cU (pv 3) af) ab))))) (aa (pv 8) ab)))) ab))))
     (ag (aT (dh (fun σ H'=>mw H p d lf W ps ms fs k σ H'/\ms≠[]) (mw H p d lf W ps ms fs k) (PW.pt (ck (aq aX (pv 7) af) (bM (aq (PB hr) (bx hu (pv 1) ai) (aP ab))))))
      (ag (aQ (ci KU KS KR bv (pv 5) (aa (aK (aa ai (aa (ax SL MF rfl (aa (pv 0) (aa ai (aa (pv 1) (aa (pv 2) ab))))) (aa (pv 8) ab)))) ab))))
      (ag (aQ (ci KU KS KR bv (pv 5) (aa (aK (aa ai (aa (ax SL MF rfl (aa (pv 0) (aa ai (aa (pv 1) (aa (pv 2) ab))))) (aa (pv 8) ab)))) ab)))))))))))
   (ag (aw (aY bC (by rfl) B.tuple bG (aa (pv 5) ab)))))),?_⟩
  refine⟨OT,fun l8 n8=>?_⟩;generalize zz:aM H l8 _=H1;have⟨s1,e1⟩:=nw n8 zz;clear zz;have pl8:p≠l8:=hL.g.ne n8;refine⟨_,rfl,p,8,rfl,hL.g.same s1,zd,zd,fun mi H2 hmi g2 b2=>?_⟩;obtain⟨hma,hmb⟩:=Cq hmi;refine⟨l8,_,_,_,rfl,rfl,OO.of (b2 _ _ e1 pl8.symm),bf hma,?_⟩;generalize ([0,1,1,2,2,3,1,4]:Ut).getD mi 0=B' at*;have Xh:O4 p H H2:=(dS s1).trans b2;refine⟨OT,fun ls nls=>?_⟩;generalize zz:aM H2 ls _=H3;have⟨s3,e3⟩:=nw nls zz;clear zz;have UZ:p≠ls:=g2.ne nls;have nl:H ls=none:=uB Xh g2 nls;have I3:SI H p ls W ps ms fs (k-1) 0 H3:=⟨g2.same s3,Xh.same s3,[],[],e3,.nil,rfl,zd,fun g hg=>by cases hg⟩;refine⟨_,rfl,_,rfl,zo,zo,?_⟩;rw[show((B':Int)).toNat=B' from Lu B'];refine dG (lo:=0) (n:=B') (fun i σ H'=>∃v6 v7 v8:Option V,σ=[some (.ref p),some (.ref d),some (.ref lf),some (.int k),some (.int B'),some (.ref ls),v6,v7,v8]/\SI H p ls W ps ms fs (k-1) i H') ⟨_,_,_,rfl,I3⟩ ?_ ?_
  ·rintro i σ H4 hi ⟨v6,v7,v8,rfl,I4⟩;have Xd:i<B':=hi;have e0:((0:Int)+(i:Int))=(i:Int):=by lia
   rw[e0];refine⟨_,rfl,p,4,rfl,I4.g,zd,zd,fun r H5 hr5 g5 b5=>?_⟩;have I5:=I4.but UZ g5 b5;refine⟨_,rfl,_,rfl,_,rfl,_,rfl,p,d,lf,W,ps,ms,fs,k,rfl,hL.but I5.g I5.b,zo,VY,fun v H6 e g6 b6 hv he=>?_⟩;have I6:=I5.but UZ g6 b6;have F':∀(H8:Hp)(r:Nat)(v vn:V)(g:Sd),SI H p ls W ps ms fs (k-1) i H8->∀us,∀s:List Sd,H8 ls=some (.lst us)->Paired (fun v g=>Pk H8 g v) us s->s.length=i->(s.filter Sd.isCell).length<=1->(∀g∈s,gy W ps ms fs (k-1) g)->Pk H8 g vn->gy W ps ms fs (k-1) g->(g.isCell=true->s.filter Sd.isCell=[])->∃v6 v7 v8:Option V,[some (.ref p),some (.ref d),some (.ref lf),some (.int k),some (.int B'),some (.ref ls),some (.int (i:Nat)),some (.int r),some v]=[some (.ref p),some (.ref d),some (.ref lf),some (.int k),some (.int B'),some (.ref ls),v6,v7,v8]/\SI H p ls W ps ms fs (k-1) (i+1) (aM H8 ls (.lst (us++[vn]))):=fun H8 r v vn g I8 us s e1 e2 e3 e4 e5 e6 e7 e8=>⟨_,_,_,rfl,I8.next nl UZ e1 e2 e3 e4 e5 e6 e7 e8⟩;refine⟨?_,?_,?_⟩
   ·rintro H7 ⟨ls',WG,i',⟨r',v',e',eσ,I7,hv7,he7⟩,nl',Ym,Xc,us,ss,UV,ML,UO,Wp,UJ⟩;have ei:(i:Int)=(i':Int):=by
     have:=d_ (fun l:List (Option V)=>l[6]?) eσ;simpa using this
    have Yh:i=i':=by lia
    subst Yh;cases eσ;refine⟨_,rfl,.inl ⟨rfl,_,OO.of UV⟩,?_⟩;refine⟨_,rfl,_,rfl,_,rfl,_,rfl,_,_,rfl,rfl,?_⟩;obtain⟨k',rfl⟩:∃k',k=k'+2:=⟨k-2,zo⟩;have ek:((k'+2:Nat):Int)-1=((k'+1:Nat):Int):=by lia
    refine⟨p,d,lf,W,ps,ms,fs,k'+1,d_ (fun x=>[V.ref p,V.ref d,V.ref lf,V.int x]) ek,hL.but I7.g I7.b,zo,zo,fun va H8 ea g8 b8 WP ZM=>?_⟩;refine⟨_,rfl,OT,fun t nt=>?_⟩;generalize zz:aM H8 t _=H9;have⟨s9,e9⟩:=nw nt zz;clear zz;have Vv:O4 p H7 H9:=b8.same s9;have I9:=I7.but UZ (g8.same s9) Vv;have Xy:OZ H7 H9:=eQ I7.g Vv;refine⟨ls,_,_,rfl,rfl,Vv _ _ UV UZ.symm,?_,?_⟩
    ·have:=ML.length;lia
    exact F' H9 _ _ _ (.cell ea e') I9 us ss (Vv _ _ UV UZ.symm) (bD (R:=fun v g=>Pk H7 g v) (fun _ _ h'=>Pk.kt Xy h') ML) UO (by rw[Wp];decide) UJ ⟨t,va,v,rfl,e9,WP.kt (av s9),hv7.kt Xy⟩ ⟨ZM,he7⟩ (fun _=>Wp)
   ·rintro H7 ⟨ls',WG,i',⟨r',v',e',eσ,I7,hv7,he7⟩,nl',Ym,Xc⟩;have ei:(i:Int)=(i':Int):=by
     have:=d_ (fun l:List (Option V)=>l[6]?) eσ;simpa using this
    have Yh:i=i':=by lia
    subst Yh;cases eσ;refine⟨?_,?_,?_⟩
    ·rintro H8 ⟨⟨ls',WG,i',⟨r',v',e',eσ,I8,hv8,he8⟩,nl',Ym,Xc⟩,MM⟩;have ei:(i:Int)=(i':Int):=by
      have:=d_ (fun l:List (Option V)=>l[6]?) eσ;simpa using this
     have Yh:i=i':=by lia
     subst Yh;cases eσ;obtain⟨us,ss,UV,ML,UO,Wp,UJ⟩:=I8.x;have L8:=hL.but I8.g I8.b;have Vs:1<=ms.length:=LV.mpr MM;refine⟨_,rfl,.inl ⟨rfl,_,OO.of UV⟩,?_⟩;refine⟨_,rfl,_,rfl,_,rfl,p,Su,d,lf,W,ps,ms,fs,rfl,L8.g,L8.t,L8.f,L8.f3,.inr rfl,by rw[dC];exact Vs,by rw[dC];exact L8.m10,fun va Ha bb nn ga ba WP hs=>?_⟩;rw[dC]at hs;refine⟨_,rfl,OT,fun t nt=>?_⟩;generalize zz:aM Ha t _=H9;have⟨s9,e9⟩:=nw nt zz;clear zz;have Vv:O4 p H8 H9:=ba.same s9;have I9:=I8.but UZ (ga.same s9) Vv;have Xy:OZ H8 H9:=eQ I8.g Vv;refine⟨ls,_,_,rfl,rfl,Vv _ _ UV UZ.symm,?_,?_⟩
     ·have:=ML.length;lia
     exact F' H9 _ _ _ (.mk bb nn e') I9 us ss (Vv _ _ UV UZ.symm) (bD (R:=fun v g=>Pk H8 g v) (fun _ _ h'=>Pk.kt Xy h') ML) UO Wp UJ ⟨t,va,v,rfl,e9,WP.kt (av s9),hv8.kt Xy⟩ ⟨hs,he8⟩ (fun h=>by cases h)
    ·rintro H8 ⟨ls',WG,i',⟨r',v',e',eσ,I8,hv8,he8⟩,nl',Ym,Xc⟩;have ei:(i:Int)=(i':Int):=by
      have:=d_ (fun l:List (Option V)=>l[6]?) eσ;simpa using this
     have Yh:i=i':=by lia
     subst Yh;cases eσ;obtain⟨us,ss,UV,ML,UO,Wp,UJ⟩:=I8.x;have L8:=hL.but I8.g I8.b;refine⟨_,rfl,.inl ⟨rfl,_,OO.of UV⟩,?_⟩;refine⟨_,rfl,_,rfl,_,rfl,p,Sn,d,lf,W,ps,ms,fs,rfl,L8.g,L8.t,L8.f,L8.f3,.inl rfl,by rw[cY];exact L8.p1,by rw[cY];exact L8.p10,fun va Ha bb nn ga ba WP hs=>?_⟩;rw[cY]at hs;refine⟨_,rfl,OT,fun t nt=>?_⟩;generalize zz:aM Ha t _=H9;have⟨s9,e9⟩:=nw nt zz;clear zz;have Vv:O4 p H8 H9:=ba.same s9;have I9:=I8.but UZ (ga.same s9) Vv;have Xy:OZ H8 H9:=eQ I8.g Vv;refine⟨ls,_,_,rfl,rfl,Vv _ _ UV UZ.symm,?_,?_⟩
     ·have:=ML.length;lia
     exact F' H9 _ _ _ (.pl bb nn e') I9 us ss (Vv _ _ UV UZ.symm) (bD (R:=fun v g=>Pk H8 g v) (fun _ _ h'=>Pk.kt Xy h') ML) UO Wp UJ ⟨t,va,v,rfl,e9,WP.kt (av s9),hv8.kt Xy⟩ ⟨hs,he8⟩ (fun h=>by cases h)
    ·refine⟨_,rfl,rfl,_,rfl,ce (fun h=>?_) (fun h=>bP ⟨ls,B',i,⟨r,v,e',rfl,I7,hv7,he7⟩,nl,UZ,Xc⟩)⟩;have L7:=hL.but I7.g I7.b;obtain⟨kvs,lp,lm,a1,a2,a3,a4,a5,a6⟩:=L7.t;refine⟨_,rfl,d,_,rfl,bA a1 a4,OT,fun le V8=>?_⟩;generalize zz:aM H7 le _=H8;have⟨s8,e8⟩:=nw V8 zz;clear zz;have I8:=I7.but UZ (I7.g.same s8) (dS s8);have hJ:mw H p d lf W ps ms fs k [some (.ref p),some (.ref d),some (.ref lf),some (.int k),some (.int B'),some (.ref ls),some (.int (i:Nat)),some (.int r),some v] H8:=⟨ls,B',i,⟨r,v,e',rfl,I8,hv7.kt (av s8),he7⟩,nl,UZ,Xc⟩;refine pR (fun z hz=>(L7.mn z hz).1) (s8 _ _ a6) e8 ⟨_,rfl,ce (fun h=>⟨hJ,?_⟩) (fun h=>hJ)⟩;intro em;rw[em]at h;simp at h
   ·have Xc:i<4:=by lia
    refine⟨_,rfl,rfl,_,rfl,ce (fun h=>?_) (fun h=>bP ⟨ls,B',i,⟨r,v,e,rfl,I6,hv,he⟩,nl,UZ,Xc⟩)⟩;obtain⟨us,ss,UV,ML,UO,Wp,UJ⟩:=id I6.x;have W5:=ML.length;refine⟨_,rfl,ls,rfl,⟨_,OO.of UV⟩,?_⟩;refine eJ (K:=K) (a:=ls) (xs:=us) (fun j ys H'=>OM H6 H'/\ys.length<=j/\Paired (fun v g=>Pk H6 g v) ys ((ss.take j).filter Sd.isCell)) ⟨OM.refl _,KO _,.nil⟩ (fun j ys H' hj⟨s',l',_⟩=>⟨OO.of (s' _ _ UV),zo⟩) ?_ ?_
    ·rintro j x ys H7 hx ⟨s7,l7,W_⟩;obtain⟨g,hg,XD⟩:=dB ML hx;have MP:=(Kx.mp hx).1;obtain⟨pg,rg,rfl,hpg⟩:=XD.at;refine⟨trivial,?_⟩;refine⟨_,rfl,pg,_,_,_,rfl,rfl,ON.of (s7 _ _ hpg),bH,rfl,_,rfl,?_⟩;rw[zJ];refine ce (fun h=>?_) (fun h=>?_)
     ·refine⟨_,rfl,Nx.mk MP ⟨s7,by rw[Kz];simp;lia,?_⟩⟩;rw[Lj,hg,Mq];have:(some g).toList.filter Sd.isCell=[g]:=by simp[h]
      rw[this];exact eu (R:=fun v g=>Pk H6 g v) XD W_
     ·refine Nx.mk MP ⟨s7,zo,?_⟩;rw[Lj,hg,Mq];have:(some g).toList.filter Sd.isCell=[]:=by simp[h]
      rw[this,Lm];exact W_
    ·rintro ys H7 ⟨s7,l7,W_⟩ lq X1;rw[show us.length=ss.length by lia,K7]at W_;generalize zz:aM H7 lq _=H8;have s8:=(nw X1 zz).1;have e8:H8 lq=some (.lst ys):=(nw X1 zz).2;clear zz;refine⟨OT,fun le V8=>?_⟩;generalize zz:aM H8 le _=H9;have⟨s9,e9⟩:=nw V8 zz;clear zz;have YD:=(s7.trans s8).trans s9;have I9:=I6.but UZ (I6.g.same YD) (dS YD);have hv9:=hv.kt (av YD);refine Cp (s9 _ _ e8) (zK (W:=W) (m:=k-1) (ps:=ps) (ms:=ms) (fs:=fs) (bD (R:=fun v g=>Pk H6 g v) (fun _ _ h'=>Pk.kt (av YD) h') W_) fun g hg=>UJ g (Mi.mp hg).1) e9 ⟨_,rfl,ce (fun h=>?_) (fun h=>?_)⟩
     ·have h0:ys.length=0:=h_ h;have:ss.filter Sd.isCell=[]:=List.eq_nil_of_length_eq_zero (by rw[<-W_.length];exact h0);exact⟨ls,B',i,⟨r,v,e,rfl,I9,hv9,he⟩,nl,UZ,Xc,us,ss,YD _ _ UV,bD (R:=fun v g=>Pk H6 g v) (fun _ _ h'=>Pk.kt (av YD) h') ML,UO,this,UJ⟩
     ·exact⟨ls,B',i,⟨r,v,e,rfl,I9,hv9,he⟩,nl,UZ,Xc⟩
  ·rintro σ H4 ⟨v6,v7,v8,rfl,I4⟩;obtain⟨us,ss,UV,ML,UO,Wp,UJ⟩:=I4.x;refine⟨_,rfl,ls,_,rfl,.inl ⟨OO.of UV,fun t nt=>?_⟩⟩;have s5:=aj (o:=.tup us) nt;exact q t us ss _ (I4.g.same s5) (I4.b.same s5) ae (bD (R:=fun v g=>Pk H4 g v) (fun _ _ h'=>Pk.kt (av s5) h') ML) zo Wp UJ
end
def rZ(fs:Uu):Ee->Prop
 |.w0 s=>s∈([S4,Tf,Tg]:Us)
 |.fault z=>cP z
 |.go s j=>s∈([Ts,SH]:Us)/\∃z:Str,fs[j]?=some (z,(S2:Str))
def Cr(ps ms:Us)(fs:Uu):Tt->Prop
 |.top b n=>cB ps Sn fs b n
 |.pl b n=>cB ps Sn fs b n
 |.mk b n=>cB ms Su fs b n
def fE(W:Nat)(ps ms:Us)(fs:Uu)(m:Nat):Nat->Dd->Prop
 |_,.leaf s e=>s.length<=4/\(s.filter Sd.isCell).length<=1/\(∀g∈s,gy W ps ms fs m g)/\rZ fs e
 |0,.ite _ _ _=>False
 |c+1,.ite t y n=>Cr ps ms fs t/\fE W ps ms fs m c y/\fE W ps ms fs m c n
inductive JR(p:Ul)(d:Ul)(lf:Ul)(fs:Uu)(H:Hp)(r:Nat)(σ:St)(H':Hp):Prop
 |mk(lb:_):σ=[some (.ref p),some (.ref lf),some (.ref lb),some (.int r)]->OX H' p->O4 p H H'->p≠lb->H' lb=some (.lst (aW (dJ S2 fs fs.length)))->JR p d lf fs H r σ H'
inductive uC(vs:Uv)(H:Hp)(Q:VK)(Z3:XK):Prop
 |mk(p d lf W ps ms fs:_):vs=[.ref p,.ref lf]->Lx H p d lf W ps ms fs->(∀v H' e,OX H' p->O4 p H H'->Ry H' e v->rZ fs e->Q v H')->uC vs H Q Z3
def Hy(r:Nat):∃z:Str,oz ([V.str Ts,.str Ts,.str SH]:Uv) ((r:Int)%3)=some (.str z)/\z∈([Ts,SH]:Us):=by
 have e:(r:Int)%3=((r%3:Nat):Int):=by lia
 rw[e];have h3:r%3<3:=Mx _ zd
 match r%3,h3 with
 |0,_=>exact⟨Ts,bf (j:=0) rfl,zk⟩
 |1,_=>exact⟨Ts,bf (j:=1) rfl,zk⟩
 |2,_=>exact⟨SH,bf (j:=2) rfl,zk⟩
def Q2:Us:=[("zq":Str),"deepq","baq"]
def xu(z:Str):cP z↔(z∉PQ/\1<=z.length/\z.length<=8/\(z.cps.toList.all fun c=>decide (97<=c)&&decide (c<=122))=true)/\z∉([(TV:Str),(TY:Str)]:Us):=by
 unfold cP OY;simp only[Li,Mg,RR]
def Fu:∀z∈Q2,cP z:=by
 intro z hz;rw[xu];revert z;decide +kernel
section
def QJ:az [Sj,Sk,S3,Ti] [Sj,Sk] (ak vN):=cv zk
def Ct(F:O0 K "_law_end" "_law_end" vN f fd)(B:Bl mg)(B3:Ca mg)(J':Fn P w K mg base "_law_take" 1 [Sj,SB] eO):OQ P w K mg base bQ 2 f fd [Sj,Sk] uC:=by
 have ZZ:=QJ
 walk_at "o"
 ·obtain⟨p,d,lf,W,ps,ms,fs,rfl,hL,q⟩:=h;have hu:=eo hr;have sz:(100000:Nat)<=sizeLine:=by decide
  have h3:=hL.f3;refine⟨_,ac (gF (i:=2) QJ.nd rfl rfl (N':=["_law_j",SW,SJ]) (ix:=[none,none,none]) (sc0:=ak vN) (N:=[Sj,Sk,S3,Ti]) rfl zk (gX rfl B3.enumerate (aa (pv 1) ab))
     (fun C' cl s H fp=>dz (K:=K) (n:=2) rfl rfl (aA (cq (i:=0) xt) (aA (dz (K:=K) (n:=2) rfl rfl (aA (cq (i:=1) xt) (aA (cq (i:=2) xt) br))) br))) (fun _ _ _ _ _=>jx (aq aX (pv 2) ai)) (fun C' cl s H fp=>pv 0))
   (bN (fun σ H'=>∃r:Nat,JR p d lf fs H r σ H') (bL (i:=3) QJ.nd (ax J' hr rfl (aa (pv 0) (aa af ab))))
   (ac (aT (dh (fun σ H'=>∃r:Nat,JR p d lf fs H r σ H'/\dJ S2 fs fs.length≠[]) (fun σ H'=>∃r:Nat,JR p d lf fs H r σ H') (PW.pt (ck (aq (PB hr) (pv 2) (aP ab)) (bM (aq eR (pv 3) af)))))
     (ag (aw (aK (aa (aB aU (aP (aa ai (aa ai (aa ai ab)))) (aH fg (pv 3) af)) (aa (aB aU (pv 2) (ax J' hr rfl (aa (pv 0) (aa (aI aL (by rfl) B.len KW (aa (pv 2) ab)) ab)))) ab))))) aG)
   (ac (aT (aq aX (pv 3) af) (ag (aw (aK (aa ai ab)))) aG)
   (ac (aT (dh (fun σ H'=>∃r:Nat,JR p d lf fs H r σ H') (fun σ H'=>∃r:Nat,JR p d lf fs H r σ H') (PW.pt (ck (aq aX (pv 3) af) (bM (aq aX (ax J' hr rfl (aa (pv 0) (aa af ab))) af))))) (ag (aw (aK (aa ai ab)))) aG)
   (ac (aT (dh (fun σ H'=>∃r:Nat,JR p d lf fs H r σ H') (fun σ H'=>∃r:Nat,JR p d lf fs H r σ H') (PW.pt (ck (aq aX (pv 3) af) (bM (aq aX (ax J' hr rfl (aa (pv 0) (aa af ab))) af)))))
     (ag (aw (aK (aa ai (aa (aB aU (aP (aa ai (aa ai (aa ai ab)))) (ax J' hr rfl (aa (pv 0) (aa af ab)))) ab))))) aG)
   (ag (aw (aK (aa ai ab))))))))),?_⟩
  obtain⟨us,Vt,ML⟩:=id hL.f;have lu:=ML.length;refine⟨_,rfl,lf,rfl,⟨_,OO.of Vt⟩,?_⟩;refine kC (K:=K) (l:=lf) (xs:=us) (fun i ys H'=>OM H H'/\ys=aW (dJ S2 fs i)) ⟨OM.refl _,rfl⟩ (fun i ys H' hi⟨s',e'⟩=>⟨OO.of (s' _ _ Vt),by rw[e',gh];have:=ie S2 fs i;lia⟩) ?_ ?_
  ·rintro i x ys H1 T1 hx nT ⟨s1,rfl⟩;obtain⟨z,hz,pf,rfl,U8⟩:=dB ML hx;have s2:=aj (o:=.tup [.int (i:Int),.ref pf]) nT;have MO:=s1.trans s2;have MP:=(Kx.mp hx).1;refine⟨T1,_,rfl,ON.of ae,rfl,_,_,rfl,_,_,rfl,⟨pf,_,rfl,ON.of (MO _ _ U8),rfl,_,_,rfl,_,_,rfl,rfl,rfl,trivial,?_⟩⟩;refine⟨_,rfl,rfl,_,rfl,ce (fun h=>?_) (fun h=>?_)⟩
   ·have h':z.2=S2:=V.str.inj (h_ h);refine⟨_,rfl,Nx.mk MP ⟨MO,?_⟩⟩;rw[fb hz,f_ h'];unfold aW;rw[KJ];rfl
   ·have h':¬z.2=S2:=fun e=>h (a_ (by rw[e]));refine Nx.mk MP ⟨MO,?_⟩;rw[fb hz,e_ h',Lm]
  ·rintro ys H1 ⟨s1,rfl⟩ lb VB;rw[lu];have ZD:=ie S2 fs fs.length;generalize zz:aM H1 lb _=H2;have s2:=(nw VB zz).1;have e2:H2 lb=some (.lst (aW (dJ S2 fs fs.length))):=(nw VB zz).2;clear zz;have UA:p≠lb:=(hL.g.same s1).ne VB;have Vp:=s1.trans s2;have w0:∀(z:Str)H5,z∈([S4,Tf,Tg]:Us)->OX H5 p->O4 p H H5->1<=sizeLine/\∀t,H5 t=none->Q (.ref t) (aM H5 t (.tup [.str z])):=fun z H5 hz g5 b5=>⟨zd,fun t nt=>by
    have s6:=aj (o:=.tup [.str z]) nt;exact q _ _ (.w0 z) (g5.same s6) (b5.same s6) ⟨t,rfl,ae⟩ hz⟩
   refine⟨?_,?_⟩
   ·rintro σ H4 ⟨r,lb,rfl,g4,b4,UA,e4⟩;refine⟨?_,?_,?_⟩
    ·rintro H5 ⟨r',⟨Wo,e,g5,b5,U0,e5⟩,MM⟩;have er:(r:Int)=(r':Int):=by
      have:=d_ (fun l:List (Option V)=>l[3]?) e;simpa using this
     have er':r=r':=by lia
     subst er';cases e;have VM:0<(dJ S2 fs fs.length).length:=LV.mpr MM;obtain⟨z,hz1,Zq⟩:=Hy r;refine⟨OT,fun lg ng=>?_⟩;generalize zz:aM H5 lg _=H6;have⟨s6,e6⟩:=nw ng zz;clear zz;refine⟨_,rfl,_,_,rfl,rfl,(by show(0:Int)<3;decide),lg,_,_,_,rfl,rfl,OO.of e6,hz1,?_⟩;refine⟨_,rfl,_,rfl,_,rfl,lb,_,rfl,.inl (OO.of (s6 _ _ e5)),?_⟩;rw[gh];refine⟨p,(dJ S2 fs fs.length).length,rfl,g5.same s6,VM,zo,fun j H7 hj g7 b7=>?_⟩;obtain⟨zz,hzz⟩:=mj (Lo hj);refine⟨lb,_,_,_,rfl,rfl,OO.of (b7 _ _ (s6 _ _ e5) UA.symm),bf (pP hj),OT,fun t nt=>?_⟩;have s8:=aj (o:=.tup [.str z,.int ((dJ S2 fs fs.length)[j]:Nat)]) nt;exact q _ _ (.go z (dJ S2 fs fs.length)[j]) (g7.same s8) (((b5.same s6).trans b7).same s8) ⟨t,rfl,ae⟩ ⟨Zq,zz,hzz⟩
    ·rintro H5 ⟨r',Wo,e,g5,b5,U0,e5⟩;cases e;refine⟨_,rfl,rfl,_,rfl,ce (fun h=>w0 Tf H5 zk g5 b5) (fun h=>?_)⟩;refine⟨?_,?_,?_⟩
     ·rintro H6 ⟨r',Wo,e,g6,b6,U0,e6⟩;exact w0 Tg H6 zk g6 b6
     ·rintro H6 ⟨r',Wo,e,g6,b6,U0,e6⟩;cases e;refine⟨?_,?_,?_⟩
      ·rintro H7 ⟨r',Wo,e,g7,b7,U0,e7⟩;cases e;refine⟨OT,fun l8 n8=>?_⟩;generalize zz:aM H7 l8 _=H8;have s8:=(nw n8 zz).1;have e8:H8 l8=some (.lst (ay Q2)):=(nw n8 zz).2;clear zz;have pla:p≠l8:=g7.ne n8;refine⟨_,rfl,p,3,rfl,g7.same s8,zd,zd,fun j Hb hj gb bb=>?_⟩;have Ws:j<Q2.length:=hj;refine⟨l8,_,_,_,rfl,rfl,OO.of (bb _ _ e8 pla.symm),bf (v:=.str Q2[j]) (by unfold ay;rw[KZ,KF Ws];rfl),OT,fun t nt=>?_⟩;have sc:=aj (o:=.tup [.str Sy,.str Q2[j]]) nt;exact q _ _ (.fault Q2[j]) (gb.same sc) (((b7.same s8).trans bb).same sc) ⟨t,rfl,ae⟩ (Fu _ (Lo Ws))
      ·rintro H7 ⟨r',Wo,e,g7,b7,U0,e7⟩;exact w0 S4 H7 zk g7 b7
      ·refine⟨_,rfl,rfl,_,rfl,ce (fun h=>?_) (fun h=>bP ⟨_,lb,rfl,g6,b6,UA,e6⟩)⟩;refine⟨_,rfl,p,3,rfl,g6,zd,zd,fun j H7 hj g7 b7=>?_⟩;exact⟨rfl,_,rfl,ce (fun h=>⟨_,lb,rfl,g7,b6.trans b7,UA,b7 _ _ e6 UA.symm⟩) (fun h=>⟨_,lb,rfl,g7,b6.trans b7,UA,b7 _ _ e6 UA.symm⟩)⟩
     ·refine⟨_,rfl,rfl,_,rfl,ce (fun h=>?_) (fun h=>bP ⟨_,lb,rfl,g5,b5,UA,e5⟩)⟩;refine⟨_,rfl,p,3,rfl,g5,zd,zd,fun j H7 hj g7 b7=>?_⟩;exact⟨rfl,_,rfl,ce (fun h=>⟨_,lb,rfl,g7,b5.trans b7,UA,b7 _ _ e5 UA.symm⟩) (fun h=>⟨_,lb,rfl,g7,b5.trans b7,UA,b7 _ _ e5 UA.symm⟩)⟩
    ·refine⟨_,rfl,OT,fun le V8=>?_⟩;generalize zz:aM H4 le _=H6;have⟨s6,e6⟩:=nw V8 zz;clear zz;have hJ:JR p d lf fs H r [some (.ref p),some (.ref lf),some (.ref lb),some (.int r)] H6:=⟨lb,rfl,g4.same s6,b4.same s6,UA,s6 _ _ e4⟩;refine pQ (s6 _ _ e4) e6 ⟨_,rfl,ce (fun h=>?_) (fun h=>bP ⟨r,hJ⟩)⟩;refine⟨_,rfl,_,_,rfl,rfl,_,rfl,ce (fun h'=>⟨r,hJ,?_⟩) (fun h'=>⟨r,hJ⟩)⟩;intro e;rw[e]at h;simp at h
   ·refine⟨_,rfl,p,10,rfl,hL.g.same Vp,zd,zd,fun r H4 MF g4 b4=>?_⟩;exact⟨r,lb,rfl,g4,(dS Vp).trans b4,UA,b4 _ _ e2 UA.symm⟩
end
inductive r9(mm:Nat)(c:Nat)(vs:Uv)(H:Hp)(Q:VK):Prop
 |mk(p d lf W ps ms fs:_)(c' k:Nat):vs=[.ref p,.ref d,.ref lf,.int c',.int k]->Lx H p d lf W ps ms fs->2<=k->k<=mm->c'<=c->(∀v H' dd,OX H' p->O4 p H H'->Qw H' dd v->fE W ps ms fs (k-1) c' dd->Q v H')->r9 mm c vs H Q
def kF(mm:Nat):Nat->Sp
 |0=>jN
 |c+1=>fun vs H Q _=>r9 mm c vs H Q
def Fv(r:Nat):∃t:Bool,oz ([V.str Sn,.str Ta]:Uv) ((r:Int)%2)=some (.str (if t then Ta else Sn)):=by
 have e:(r:Int)%2=((r%2:Nat):Int):=by lia
 rw[e];have h3:r%2<2:=Mx _ zd
 match r%2,h3 with
 |0,_=>exact⟨false,bf (j:=0) rfl⟩
 |1,_=>exact⟨true,bf (j:=1) rfl⟩
section
def PP:az [Sj,Si,Sk,S9,SK,Ti,Tw,"_law_yes"] [Sj,Si,Sk,S9,SK] (ak tP):=cv zk
inductive JD(p:Ul)(d:Ul)(lf:Ul)(ps:Us)(ms:Us)(fs:Uu)(H:Hp)(c:Nat)(k:Nat)(σ:St)(H':Hp):Prop
 |mk(r:Nat)(t:Tt)(vt:V):σ=[some (.ref p),some (.ref d),some (.ref lf),some (.int c),some (.int k),some (.int r),some vt,none]->OX H' p->O4 p H H'->Q0 H' t vt->Cr ps ms fs t->JD p d lf ps ms fs H c k σ H'
def je(F:O0 K "_law_deed" "_law_deed" tP f fd)(J':Fn P w K mg base "_law_take" 1 [Sj,SB] eO)(SL:Fn P w K mg base "_law_sel" 2 [Sj,SJ,Si,Sk] mv)(ST:Fn P w K mg base "_law_sets" n [Sj,Si,Sk,SK] (pT mm))(EN:Fn P w K mg base "_law_end" 2 [Sj,Sk] uC)(DE:Fn P w K mg base "_law_deed" n [Sj,Si,Sk,S9,SK] (kF mm c))(hn:2<=n):OQ P w K mg base bQ (n+1) f fd [Sj,Si,Sk,S9,SK] (kF mm (c+1)):=by
 have ZZ:=PP
 walk_at "o"
 ·obtain⟨p,d,lf,W,ps,ms,fs,c',k,rfl,hL,WU,VY,hc,q⟩:=h;have hu:=eo hr;have ME:OU 1 _:=hr.mono zo;have MF:OU 2 _:=hr.mono zo;refine⟨_,ac (aT (dh (fun _ H'=>OX H' p/\O4 p H H'/\1<=c') (fun _ H'=>OX H' p/\O4 p H H') (PW.pt (ck (aq kO (pv 3) af) (bM (aq aX (ax J' ME rfl (aa (pv 0) (aa af ab))) af)))))
    (ac (bL (i:=5) PP.nd (ax J' ME rfl (aa (pv 0) (aa af ab))))
    (bN (JD p d lf ps ms fs H c' k) (bL (i:=6) PP.nd (aK (aa (aB aU (aP (aa ai (aa ai ab))) (aH fg (pv 5) af)) (aa (ax SL MF rfl (aa (pv 0) (aa ai (aa (pv 1) (aa (pv 2) ab))))) ab))))
    (bN (JD p d lf ps ms fs H c' k) (aT (dh (fun σ H'=>JD p d lf ps ms fs H c' k σ H'/\ms≠[]) (JD p d lf ps ms fs H c' k) (PW.pt (ck (aq aX (pv 5) af) (bM (aq (PB hr) (bx hu (pv 1) ai) (aP ab)))))) (ag (bL (i:=6) PP.nd (aK (aa ai (aa (ax SL MF rfl (aa (pv 0) (aa ai (aa (pv 1) (aa (pv 2) ab))))) ab))))) aG)
    (ac (bL (i:=7) PP.nd (ax DE hr rfl (aa (pv 0) (aa (pv 1) (aa (pv 2) (aa (aH cU (pv 3) af) (aa (pv 4) ab)))))))
    (ag (aw (aK (aa ai (aa (pv 6) (aa (pv 7) (aa (ax DE hr rfl (aa (pv 0) (aa (pv 1) (aa (pv 2) (aa (aH cU (pv 3) af) (aa (pv 4) ab)))))) ab))))))))))) aG)
   (ag (aw (aK (aa ai (aa (ax ST hr rfl (aa (pv 0) (aa (pv 1) (aa (pv 2) (aa (pv 4) ab))))) (aa (ax EN MF rfl (aa (pv 0) (aa (pv 2) ab))) ab)))))),?_⟩
  refine⟨?_,?_,?_⟩
  ·rintro H1 ⟨g1,b1,ZP⟩;obtain⟨c0,rfl⟩:∃c0,c'=c0+1:=⟨c'-1,zo⟩;have ec:((c0+1:Nat):Int)-1=((c0:Nat):Int):=by lia
   cases c with
   |zero=>lia
   |succ c=>
    refine⟨_,rfl,p,3,rfl,g1,zd,zd,fun r H2 Vq g2 b2=>?_⟩;have Xh:=b1.trans b2;refine⟨?_,?_⟩
    ·rintro σ H3 ⟨r,t,vt,rfl,g3,b3,ht,X5⟩;refine⟨?_,?_⟩
     ·rintro σ H4 ⟨r,t,vt,rfl,g4,b4,ht4,Xn⟩;have L4:=hL.but g4 b4;refine⟨_,rfl,_,rfl,_,rfl,_,rfl,_,_,rfl,rfl,_,rfl,?_⟩;refine⟨p,d,lf,W,ps,ms,fs,c0,k,d_ (fun x=>[V.ref p,V.ref d,V.ref lf,V.int x,V.int k]) ec,L4,WU,VY,zo,fun vy H5 dy g5 b5 hy hyo=>?_⟩;have L5:=L4.but g5 b5;refine⟨_,rfl,_,rfl,_,rfl,_,rfl,_,rfl,_,rfl,_,_,rfl,rfl,_,rfl,?_⟩;refine⟨p,d,lf,W,ps,ms,fs,c0,k,d_ (fun x=>[V.ref p,V.ref d,V.ref lf,V.int x,V.int k]) ec,L5,WU,VY,zo,fun vn H6 dn g6 b6 hn6 WT=>⟨OT,fun tt nt=>?_⟩⟩;have s7:=aj (o:=.tup [.str Ub,vt,vy,vn]) nt;have Zo:OZ H4 H6:=eQ g4 (b5.trans b6);refine q _ _ (.ite t dy dn) (g6.same s7) (((b4.trans b5).trans b6).same s7) ⟨tt,vt,vy,vn,rfl,ae,(ht4.kt Zo).kt (av s7),(hy.kt (eQ g5 b6)).kt (av s7),hn6.kt (av s7)⟩ ?_;simp only[fE];exact⟨Xn,hyo,WT⟩
     ·refine⟨?_,?_,?_⟩
      ·rintro H4 ⟨⟨r',t',vt',e,g4,b4,ht4,Xn⟩,MM⟩;cases e;have L4:=hL.but g4 b4;have Vs:1<=ms.length:=LV.mpr MM;refine⟨_,rfl,_,rfl,_,rfl,p,Su,d,lf,W,ps,ms,fs,rfl,L4.g,L4.t,L4.f,L4.f3,.inr rfl,by rw[dC];exact Vs,by rw[dC];exact L4.m10,fun va Ha bb nn ga ba WP hs=>⟨OT,fun tt nt=>?_⟩⟩;rw[dC]at hs;have s5:=aj (o:=.tup [.str Su,va]) nt;exact⟨r,.mk bb nn,.ref tt,rfl,ga.same s5,(b4.trans ba).same s5,⟨tt,va,rfl,ae,WP.kt (av s5)⟩,hs⟩
      ·rintro H4 ⟨r',t',vt',e,g4,b4,ht4,Xn⟩;cases e;exact⟨r,t',vt,rfl,g4,b4,ht4,Xn⟩
      ·refine⟨_,rfl,rfl,_,rfl,ce (fun h=>?_) (fun h=>bP ⟨r,t,vt,rfl,g3,b3,ht,X5⟩)⟩;have Xj:=hL.but g3 b3;obtain⟨kvs,lp,lm,a1,a2,a3,a4,a5,a6⟩:=Xj.t;refine⟨_,rfl,d,_,rfl,bA a1 a4,OT,fun le V8=>?_⟩;generalize zz:aM H3 le _=H8;have⟨s8,e8⟩:=nw V8 zz;clear zz;have hJ:JD p d lf ps ms fs H (c0+1) k [some (.ref p),some (.ref d),some (.ref lf),some (.int (c0+1:Nat)),some (.int k),some (.int r),some vt,none] H8:=⟨r,t,vt,rfl,g3.same s8,b3.same s8,ht.kt (av s8),X5⟩;refine pR (fun z hz=>(Xj.mn z hz).1) (s8 _ _ a6) e8 ⟨_,rfl,ce (fun h=>⟨hJ,?_⟩) (fun h=>hJ)⟩;intro em;rw[em]at h;simp at h
    ·refine⟨OT,fun lg ng=>?_⟩;generalize zz:aM H2 lg _=H3;have⟨s3,e3⟩:=nw ng zz;clear zz;obtain⟨tb,htb⟩:=Fv r;refine⟨_,rfl,_,_,rfl,rfl,(by show(0:Int)<2;decide),lg,_,_,_,rfl,rfl,OO.of e3,htb,?_⟩;have Xj:=hL.but (g2.same s3) (Xh.same s3);refine⟨_,rfl,_,rfl,_,rfl,p,Sn,d,lf,W,ps,ms,fs,rfl,Xj.g,Xj.t,Xj.f,Xj.f3,.inl rfl,by rw[cY];exact Xj.p1,by rw[cY];exact Xj.p10,fun va Ha bb nn ga ba WP hs=>⟨OT,fun tt nt=>?_⟩⟩;rw[cY]at hs;cases tb with
     |true=>
      have s5:=aj (o:=.tup [.str Ta,va]) nt;exact⟨r,.top bb nn,.ref tt,rfl,ga.same s5,((Xh.same s3).trans ba).same s5,⟨tt,va,rfl,ae,WP.kt (av s5)⟩,hs⟩
     |false=>
      have s5:=aj (o:=.tup [.str Sn,va]) nt;exact⟨r,.pl bb nn,.ref tt,rfl,ga.same s5,((Xh.same s3).trans ba).same s5,⟨tt,va,rfl,ae,WP.kt (av s5)⟩,hs⟩
  ·rintro H1 ⟨g1,b1⟩;have L1:=hL.but g1 b1;refine⟨_,rfl,_,rfl,_,rfl,_,rfl,p,d,lf,W,ps,ms,fs,k,rfl,L1,WU,VY,fun ts us ss H2 g2 b2 e2 Wq h4 XG UJ=>?_⟩;have L2':=L1.but g2 b2;refine⟨_,rfl,_,rfl,p,d,lf,W,ps,ms,fs,rfl,L2',fun ve H3 e g3 b3 hv3 he3=>⟨OT,fun tt nt=>?_⟩⟩;have s4:=aj (o:=.tup [.str "leaf",.ref ts,ve]) nt;have k23:OZ H2 H3:=eQ g2 b3;refine q _ _ (.leaf ss e) (g3.same s4) (((b1.trans b2).trans b3).same s4) ⟨tt,ts,us,ve,rfl,ae,s4 _ _ (k23 _ _ e2),bD (R:=fun v g=>Pk H2 g v) (fun _ _ h'=>Pk.kt (av s4) (Pk.kt k23 h')) Wq,hv3.kt (av s4)⟩ ?_;cases c'<;>exact⟨h4,XG,UJ,he3⟩
  ·refine⟨_,rfl,_,_,rfl,rfl,_,rfl,ce (fun h=>?_) (fun h=>bP ⟨hL.g,O4.refl _ _⟩)⟩;have ZP:1<=c':=by
    have:=h_ h;lia
   refine⟨_,rfl,p,3,rfl,hL.g,zd,zd,fun r H4 Vq g4 b4=>?_⟩;exact⟨rfl,_,rfl,ce (fun h=>⟨g4,b4,ZP⟩) (fun h=>⟨g4,b4⟩)⟩
end
def zO(fs:Uu)(j:Nat):Str:=(fs.getD j ("","")).1
def fF(L:Us)(fs:Uu)(b:Bool)(n:Nat):Str:=if b=true then zO fs n else L.getD n ""
def dD(ps ms:Us)(fs:Uu):Ed->Ex
 |.num n=>.num n
 |.fld j=>.nm (zO fs j)
 |.pl b n=>.nm (fF ps fs b n)
 |.mk b n=>.nm (fF ms fs b n)
 |.cell e=>.cell (dD ps ms fs e)
 |.two o x y=>.two o (dD ps ms fs x) (dD ps ms fs y)
def dE(ps ms:Us)(fs:Uu):Sd->Gs
 |.cell a e=>.cell (dD ps ms fs a) (dD ps ms fs e)
 |.pl b n e=>.nm (fF ps fs b n) (dD ps ms fs e)
 |.mk b n e=>.nm (fF ms fs b n) (dD ps ms fs e)
def gB(fs:Uu):Ee->En
 |.w0 s=>.w0 s
 |.fault z=>.w1 Sy z
 |.go s j=>.w1 s (zO fs j)
def qH(ps ms:Us)(fs:Uu):Tt->Str
 |.top b n=>fF ps fs b n
 |.pl b n=>fF ps fs b n
 |.mk b n=>fF ms fs b n
def uD:Tt->Bool
 |.top _ _=>true
 |_=>false
def jf(ps ms:Us)(fs:Uu):Dd->Bd
 |.leaf s e=>.leaf (s.map (dE ps ms fs)) (gB fs e)
 |.ite t y n=>.ite (uD t) (qH ps ms fs t) (jf ps ms fs y) (jf ps ms fs n)
def gV:Option Nat->V
 |none=>.non
 |some g=>.int (g:Nat)
def gL(ms:Us):Option Nat->Us
 |none=>[]
 |some g=>[ms.getD g ""]
inductive Rl(lk:Ul)(H:Hp)(u:V)(x:Kn):Prop
 |mk(t lf b:_):u=.ref t->lf≠lk->H t=some (.tup [.str x.name,.ref lf,b])->QE H lf x.fs->Qw H x.dd b->Rl lk H u x
structure KL(W:Nat)(ps ms fn:Us)(c k:Nat)(x:Kn):Prop where
 fn:∃j,j<=3/\x.fs.map (·.1)=fn.take j
 st:∀f∈x.fs,f.2∈db
 mq:∀f∈x.fs,f.2=(Su:Str)->1<=ms.length
 dd:fE W ps ms x.fs (k-1) c x.dd
 bd:x.bd=jf ps ms x.fs x.dd
def uE(n c k:Nat):Prop:=(1<=n/\n<=8/\c=0/\k=2)\/(n=1/\c=3/\k=2)\/(1<=n/\n<=5/\c=0/\k=4)\/(1<=n/\n<=3/\c=1/\2<=k/\k<=3)
structure qI(D:Fm)(fn:Us)(gt:Option Nat):Prop where
 w4:4<=D.width
 w24:D.width<=24
 c4:4<=D.cells
 c64:D.cells<=64
 d8:D.depth<=8
 p1:1<=D.places.length
 p4:D.places.length<=4
 m3:D.marks.length<=3
 fl:fn.length=3
 nd:(D.places++D.marks++fn).Nodup
 nf:∀z∈D.places++D.marks++fn,cP z
 kn:(D.kinds.map Kn.name).Nodup
 kf:∀x∈D.kinds,cP x.name
 ga:D.gates=gL D.marks gt
 gb:∀g,gt=some g->g<D.marks.length
 kl:∃c k,uE D.kinds.length c k/\∀x∈D.kinds,KL D.width D.places D.marks fn c k x
structure Rn(H:Hp)(d:Ul)(D:Fm)(gt:Option Nat)(kvs:List (cQ×V))(lp lm lk:Ul)(us:Uv):Prop where
 ed:H d=some (.dK kvs)
 v1:bq kvs (kS Sr)=some (.int D.width)
 v2:bq kvs (kS Sw)=some (.int D.cells)
 v3:bq kvs (kS Sx)=some (.int D.depth)
 v4:bq kvs (kS So)=some (.ref lp)
 v5:bq kvs (kS Ss)=some (.ref lm)
 v6:bq kvs (kS SS)=some (gV gt)
 v7:bq kvs (kS S5)=some (.ref lk)
 ep:H lp=some (.lst (ay D.places))
 em:H lm=some (.lst (ay D.marks))
 ek:H lk=some (.lst us)
 ks:Paired (Rl lk H) us D.kinds
inductive my(vs:Uv)(H:Hp)(Q:VK)(Z3:XK):Prop
 |mk(p:Ul)(most:Nat):vs=[.ref p,.int most]->OX H p->1<=most->most<=3->(∀d H' D gt kvs lp lm lk us fn,OX H' p->O4 p H H'->Rn H' d D gt kvs lp lm lk us->qI D fn gt->Q (.ref d) H')->my vs H Q Z3
structure TN(H:Hp)(p d MI ln:Ul)(A b:Nat)(zs:Us)(kv:List (cQ×V))(H':Hp):Prop where
 g:OX H' p
 bb:O4 p H H'
 nd:H d=none
 pd:p≠d
 ed:H' d=some (.dK kv)
 emn:H' MI=some (.lst [.int (A:Nat),.int (b:Nat)])
 eln:H' ln=some (.lst (ay zs))
def TN.but(h:TN H p d MI ln A b zs kv H1)(g:OX H2 p)(b':O4 p H1 H2):TN H p d MI ln A b zs kv H2:=
 ⟨g,h.bb.trans b',h.nd,h.pd,b' _ _ h.ed h.pd.symm,b' _ _ h.emn (bS h.g h.emn fun x y z e=>by have:=d_ List.length (HO.lst.inj e);simp[o0]at this),b' _ _ h.eln (bS h.g h.eln (cJ _))⟩
def TN.same(h:TN H p d MI ln A b zs kv H1)(s:OM H1 H2):TN H p d MI ln A b zs kv H2:=h.but (h.g.same s) (dS s)
section
variable{x d:Ul}{H:Hp}
def uF{l:Uv}{k:List (cQ×V)}(h:H x=some (.lst l))(h':H d=some (.dK k)):x≠d:=by
 rintro rfl;rw[h]at h';cases h'
variable{kv:List (cQ×V)}{zs:Us}{A b:Nat}{p MI ln:Ul}{H1:Hp}
def TN.put(h:TN H p d MI ln A b zs kv H1)(kv':List (cQ×V)):TN H p d MI ln A b zs kv' (aM H1 d (.dK kv')):=by
 have hk:∀x l,H1 x=some (.lst l)->(aM H1 d (.dK kv')) x=some (.lst l):=fun x l e=>by rw[au (uF e h.ed)];exact e
 refine⟨?_,?_,h.nd,h.pd,ae,hk _ _ h.emn,hk _ _ h.eln⟩
 ·obtain⟨x,y,z,e⟩:=h.g;exact⟨x,y,z,hk _ _ e⟩
 ·intro c o e n;rw[au (ao e h.nd)];exact h.bb c o e n
def eY{l:Uv}{k kv':List (cQ×V)}(h:H1 x=some (.lst l))(h':H1 d=some (.dK k)):(aM H1 d (.dK kv')) x=some (.lst l):=by rw[au (uF h h')];exact h
def Kq(va vb vc:V):∃kv,eC [] [(kS Sr,va),(kS Sw,vb),(kS Sx,vc)]=kv/\kv.length<=3/\bq kv (kS Sr)=some va/\bq kv (kS Sw)=some vb/\bq kv (kS Sx)=some vc:=by
 refine⟨_,rfl,fT _ _,?_,?_,?_⟩
 ·show bq (bz (bz (bz [] (kS Sr) va) (kS Sw) vb) (kS Sx) vc) _=_;rw[bR zk,bR zk,eP]
 ·show bq (bz (bz (bz [] (kS Sr) va) (kS Sw) vb) (kS Sx) vc) _=_;rw[bR zk,eP]
 ·show bq (bz (bz (bz [] (kS Sr) va) (kS Sw) vb) (kS Sx) vc) _=_;rw[eP]
structure TL(H:Hp)(p d MI ln lp lm lk:Ul)(A b W cl dp:Nat)(zs:Us)(kv:List (cQ×V))(gt:Option Nat)(H':Hp):Prop where
 tn:TN H p d MI ln A b zs kv H'
 v1:bq kv (kS Sr)=some (.int (W:Nat))
 v2:bq kv (kS Sw)=some (.int (cl:Nat))
 v3:bq kv (kS Sx)=some (.int (dp:Nat))
 v4:bq kv (kS So)=some (.ref lp)
 v5:bq kv (kS Ss)=some (.ref lm)
 v6:bq kv (kS SS)=some (gV gt)
 v7:bq kv (kS S5)=some (.ref lk)
 ep:H' lp=some (.lst (ay (zs.take A)))
 em:H' lm=some (.lst (ay ((zs.drop A).take b)))
 k1:MI≠lk
 k2:ln≠lk
 k3:lp≠lk
 k4:lm≠lk
 nk:H lk=none
 pk:p≠lk
def TL.but(h:TL H p d MI ln lp lm lk A b W cl dp zs kv gt H1)(g:OX H2 p)(b':O4 p H1 H2):TL H p d MI ln lp lm lk A b W cl dp zs kv gt H2:=
 ⟨h.tn.but g b',h.v1,h.v2,h.v3,h.v4,h.v5,h.v6,h.v7,b' _ _ h.ep (bS h.tn.g h.ep (cJ _)),b' _ _ h.em (bS h.tn.g h.em (cJ _)),h.k1,h.k2,h.k3,h.k4,h.nk,h.pk⟩
def TL.same(h:TL H p d MI ln lp lm lk A b W cl dp zs kv gt H1)(s:OM H1 H2):TL H p d MI ln lp lm lk A b W cl dp zs kv gt H2:=h.but (h.tn.g.same s) (dS s)
def TL.app{p d MI ln lp lm lk:Ul}{A b W cl dp:Nat}{gt:Option Nat}(h:TL H p d MI ln lp lm lk A b W cl dp zs kv gt H1){us:Uv}(e:H1 lk=some (.lst us))(Xu:Uv):TL H p d MI ln lp lm lk A b W cl dp zs kv gt (aM H1 lk (.lst Xu)):=by
 refine⟨⟨?_,?_,h.tn.nd,h.tn.pd,?_,?_,?_⟩,h.v1,h.v2,h.v3,h.v4,h.v5,h.v6,h.v7,?_,?_,h.k1,h.k2,h.k3,h.k4,h.nk,h.pk⟩
 ·obtain⟨x,y,z,ex⟩:=h.tn.g;exact⟨x,y,z,by rw[au h.pk];exact ex⟩
 ·intro c o ec nc;rw[au (ao ec h.nk)];exact h.tn.bb c o ec nc
 ·rw[au (uF e h.tn.ed).symm];exact h.tn.ed
 ·rw[au h.k1];exact h.tn.emn
 ·rw[au h.k2];exact h.tn.eln
 ·rw[au h.k3];exact h.ep
 ·rw[au h.k4];exact h.em
def Rl.kp(k:OZ H H')(kl:∀x us,x≠lk->∀fs:Uu,H x=some (.lst us)->Paired (Pc H) us fs->H' x=some (.lst us)){x:Kn}(h:Rl lk H u x):Rl lk H' u x:=by
 obtain⟨t,lf,b,rfl,hn,ht,⟨us,e,hp⟩,hd⟩:=h;exact⟨t,lf,b,rfl,hn,k _ _ ht,⟨us,kl _ _ hn _ e hp,bD (fun _ _ h=>Pc.kt2 k h) hp⟩,hd.kt k⟩
def Fw(MH c k:Nat):Prop:=(MH=0/\c=0/\k=2)\/(MH=1/\c=3/\k=2)\/(MH=2/\c=0/\k=4)\/(MH=3/\c=1/\2<=k/\k<=3)
def Hz(h:MH<4):([V.int 0,.int 3,.int 0,.int 1]:Uv)[MH]?=some (.int (([0,3,0,1]:Ut).getD MH 0:Nat)):=by
 match MH,h with
 |0,_=>rfl
 |1,_=>rfl
 |2,_=>rfl
 |3,_=>rfl
def HB(r:Nat)(h:MH<4):([V.int 2,.int 2,.int 4,.int (2+(r:Int))]:Uv)[MH]?=some (.int (([2,2,4,2+r]:Ut).getD MH 0:Nat)):=by
 match MH,h with
 |0,_=>rfl
 |1,_=>rfl
 |2,_=>rfl
 |3,_=>rfl
def HE(r:Nat)(h:MH<4):([V.int 8,.int 1,.int 5,.int (1+(r:Int))]:Uv)[MH]?=some (.int (([8,1,5,1+r]:Ut).getD MH 0:Nat)):=by
 match MH,h with
 |0,_=>rfl
 |1,_=>rfl
 |2,_=>rfl
 |3,_=>rfl
def HF(h:MH<4)(hr:r<2):Fw MH (([0,3,0,1]:Ut).getD MH 0) (([2,2,4,2+r]:Ut).getD MH 0):=by
 match MH,h with
 |0,_=>exact .inl ⟨rfl,rfl,rfl⟩
 |1,_=>exact .inr (.inl ⟨rfl,rfl,rfl⟩)
 |2,_=>exact .inr (.inr (.inl ⟨rfl,rfl,rfl⟩))
 |3,_=>exact .inr (.inr (.inr ⟨rfl,rfl,by show 2<=2+r;lia,by show 2+r<=3;lia⟩))
def HG(h:MH<4)(hc:Fw MH c k)(hr:r<most)(hm:most<=3):uE (([8,1,5,1+r]:Ut).getD MH 0) c k:=by
 unfold uE;rcases hc with⟨rfl,rfl,rfl⟩|⟨rfl,rfl,rfl⟩|⟨rfl,rfl,rfl⟩|⟨rfl,rfl,h1,h2⟩
 ·exact .inl ⟨by show 1<=8;decide,by show 8<=8;decide,rfl,rfl⟩
 ·exact .inr (.inl ⟨rfl,rfl,rfl⟩)
 ·exact .inr (.inr (.inl ⟨by show 1<=5;decide,by show 5<=5;decide,rfl,rfl⟩))
 ·exact .inr (.inr (.inr ⟨by show 1<=1+r;lia,by show 1+r<=3;lia,rfl,h1,h2⟩))
def xw(zs:Us)(n:Nat):(ay zs).drop n=ay (zs.drop n):=by unfold ay;rw[List.map_drop]
def Re:Us:=[Sn,"number",S2,Su]
def Cu(h:i<4):([V.str Sn,.str "number",.str S2,.str Su]:Uv)[i]?=some (.str (Re.getD i ""))/\Re.getD i ""∈db:=by
 match i,h with
 |0,_=>exact⟨rfl,zk⟩
 |1,_=>exact⟨rfl,zk⟩
 |2,_=>exact⟨rfl,zk⟩
 |3,_=>exact⟨rfl,zk⟩
def sd(b:Nat):Nat:=3+if 0<b then 1 else 0
def Cv(b:Nat):(3+(if decide ((b:Int)>0)=true then 1 else 0):Int)=(sd b:Nat):=by
 unfold sd;by_cases h:0<b
 ·rw[f_ (a_ zo),f_ h];rfl
 ·rw[e_ (by simp;lia),e_ h];rfl
def Fx(h:i<sd b)(e:Re.getD i ""=(Su:Str)):0<b:=by
 unfold sd at h;split at h
 ·assumption
 ·have:∀i<3,Re.getD i ""≠(Su:Str):=by decide +kernel
  exact absurd e (this i h)
def Cy(b:Nat):3<=sd b/\sd b<=4:=by unfold sd;split<;>lia
def nU(h:uE n c k):1<=n/\n<=8/\c<=3/\2<=k/\k<=4:=by unfold uE at h;lia
def Fy(zs:Us)(A b:Nat):zs.take A++(zs.drop A).take b++zs.drop (A+b)=zs:=by
 rw[Le,<-List.drop_drop,Ly,Ly]
def zP(g:OX H p)(b:O4 p H H'):∀x us,x≠lk->∀fs:Uu,H x=some (.lst us)->Paired (Pc H) us fs->H' x=some (.lst us):=fun x us _ fs e hp=>b _ _ e (bS g e (rW hp))
def HH{A b j:Nat}(h:A+b+j<zs.length):oz (ay zs) ((A:Int)+(b:Int)+(j:Int))=some (.str zs[A+b+j]):=by
 have e:(A:Int)+(b:Int)+(j:Int)=((A+b+j:Nat):Int):=by lia
 rw[e];exact bf (by unfold ay;rw[KZ,KF h];rfl)
section
def Ph:az [Sj,TH,"_law_mode",Si,SB,SZ,S9,SK,SW,Sk,Tk,SJ] [Sj,TH] (ak oR):=cv zk
inductive JT(H:Hp)(p:Ul)(most:Nat)(σ:St)(H':Hp)(d MI ln:Ul)(A b MH:Nat)(zs:Us)(kv:List (cQ×V))(W cl dp:Nat)(v6 v7:Option V):Prop
 |mk:σ=[some (.ref p),some (.int most),some (.int (MH:Nat)),some (.ref d),some (.ref MI),some (.ref ln),v6,v7,none,none,none,none]->TN H p d MI ln A b zs kv H'->MH<4->1<=A->A<=4->b<=3->zs.length=A+b+3->zs.Nodup->(∀z∈zs,cP z)->4<=W->W<=24->4<=cl->cl<=64->dp<=8->kv.length<=7->bq kv (kS Sr)=some (.int (W:Nat))->bq kv (kS Sw)=some (.int (cl:Nat))->bq kv (kS Sx)=some (.int (dp:Nat))->JT H p most σ H' d MI ln A b MH zs kv W cl dp v6 v7
inductive zQ(p:Ul)(most:Nat)(H:Hp)(σ:St)(H':Hp):Prop
 |mk(MH:Nat):σ=[some (.ref p),some (.int most),some (.int (MH:Nat)),none,none,none,none,none,none,none,none,none]->MH<4->OX H' p->O4 p H H'->zQ p most H σ H'
inductive zR(p:Ul)(most:Nat)(H:Hp)(σ:St)(H':Hp):Prop
 |mk(MH:Nat)(d MI:Ul)(A b:Nat)(kv:List (cQ×V))(W cl dp:Nat):σ=[some (.ref p),some (.int most),some (.int (MH:Nat)),some (.ref d),some (.ref MI),none,none,none,none,none,none,none]->MH<4->OX H' p->O4 p H H'->H d=none->p≠d->H' d=some (.dK kv)->H' MI=some (.lst [.int (A:Nat),.int (b:Nat)])->p≠MI->1<=A->A<=4->b<=3->kv.length<=3->4<=W->W<=24->4<=cl->cl<=64->dp<=8->bq kv (kS Sr)=some (.int (W:Nat))->bq kv (kS Sw)=some (.int (cl:Nat))->bq kv (kS Sx)=some (.int (dp:Nat))->zR p most H σ H'
inductive uG(H:Hp)(p:Ul)(most:Nat)(σ:St)(H':Hp):Prop
 |mk(d MI ln A b MH zs kv W cl dp lp lm gt:_):JT H p most σ H' d MI ln A b MH zs kv W cl dp none none->kv.length<=6->bq kv (kS So)=some (.ref lp)->bq kv (kS Ss)=some (.ref lm)->bq kv (kS SS)=some (gV gt)->H' lp=some (.lst (ay (zs.take A)))->H' lm=some (.lst (ay ((zs.drop A).take b)))->(∀g,gt=some g->g<b)->uG H p most σ H'
inductive zS(p:Ul)(most:Nat)(H:Hp)(σ:St)(H':Hp):Prop
 |mk(d MI ln A b MH zs kv W cl dp lp lm lk gt c k:_):σ=[some (.ref p),some (.int most),some (.int (MH:Nat)),some (.ref d),some (.ref MI),some (.ref ln),some (.int (c:Nat)),some (.int (k:Nat)),none,none,none,none]->TL H p d MI ln lp lm lk A b W cl dp zs kv gt H'->H' lk=some (.lst [])->MH<4->Fw MH c k->1<=A->A<=4->b<=3->zs.length=A+b+3->zs.Nodup->(∀z∈zs,cP z)->4<=W->W<=24->4<=cl->cl<=64->dp<=8->(∀g,gt=some g->g<b)->zS p most H σ H'
def Cz{f:Ul}{fd:Ur}{n:Nat}(F:O0 K "_law_table" "_law_table" oR f fd)(B:Bl mg)(J':Fn P w K mg base "_law_take" 1 [Sj,SB] eO)(LN:Fn P w K mg base "_law_names" 2 [Sj,SB] mh)(DE:Fn P w K mg base "_law_deed" n [Sj,Si,Sk,S9,SK] (kF 4 4))(hn:2<=n):OQ P w K mg base bQ (n+1) f fd [Sj,TH] my:=by
 have ZZ:=Ph
 walk_at "o"
 ·obtain⟨p,most,rfl,hp,Vs,X_,q⟩:=h;have sz:(100000:Nat)<=sizeLine:=by decide
  have hu:=eo hr;have ME:OU 1 _:=hr.mono zo;have MF:OU 2 _:=hr.mono zo;refine⟨_,bN (zQ p most H) (bL (i:=2) Ph.nd (aI (ni rfl) (by rfl) B.min PyProof.Rows.boot_min (aa af (aa (ax J' ME rfl (aa (pv 0) (aa af ab))) ab))))
   (ac (bL (i:=3) Ph.nd (iZ (cI ai (aH bX af (ax J' ME rfl (aa (pv 0) (aa af ab)))) (cI ai (aH bX af (ax J' ME rfl (aa (pv 0) (aa af ab)))) (cI ai (ax J' ME rfl (aa (pv 0) (aa af ab))) iY))) rfl rfl (by intro z;cases z) (by show 3<=15;decide)))
   (bN (zR p most H) (bL (i:=4) Ph.nd (aP (aa (aH bX af (ax J' ME rfl (aa (pv 0) (aa af ab)))) (aa (ax J' ME rfl (aa (pv 0) (aa af ab))) ab))))
   (bN (fun σ H'=>∃d MI ln A b MH zs kv W cl dp,JT H p most σ H' d MI ln A b MH zs kv W cl dp none none/\kv.length<=3) (bL (i:=5) Ph.nd (ax LN MF rfl (aa (pv 0) (aa (aH bX (aH bX (aB aU (pv 4) af) (aB aU (pv 4) af)) af) ab))))
   (ac (gW hu (pv 3) ai (fh oC (pv 5) oy (dP (aB aU (pv 4) af))) rfl)
   (ac (gW hu (pv 3) ai (fh oC (pv 5) (dP (aB aU (pv 4) af)) (dP (aH bX (aB aU (pv 4) af) (aB aU (pv 4) af)))) rfl)
   (bN (uG H p most) (gW hu (pv 3) ai (aB aU (aP (aa gm (aa (ax J' ME rfl (aa (pv 0) (aa (aI (gT rfl) (by rfl) B.max B_ (aa af (aa (aB aU (pv 4) af) ab))) ab))) ab))) (aY eZ (by rfl) B.int LC (aa (jr (cb kO (aB aU (pv 4) af) af) (ip (cb aX (ax J' ME rfl (aa (pv 0) (aa af ab))) af))) ab))) rfl)
   (ac (gW hu (pv 3) ai (aP ab) rfl)
   (ac (bL (i:=6) Ph.nd (aB aU (aP (aa af (aa af (aa af (aa af ab))))) (pv 2)))
   (bN (zS p most H) (bL (i:=7) Ph.nd (aB aU (aP (aa af (aa af (aa af (aa (aH bX af (ax J' ME rfl (aa (pv 0) (aa af ab)))) ab))))) (pv 2)))
   (ac (cc g_ rfl (cm (ax LN MF rfl (aa (pv 0) (aa (aB aU (aP (aa af (aa af (aa af (aa (aH bX af (ax J' ME rfl (aa (pv 0) (aa (pv 1) ab)))) ab))))) (pv 2)) ab)))) (cq (i:=8) Ph.nd)
    (ac (bL (i:=9) Ph.nd (aP ab))
    (ac (cc g_ rfl (dF rfl B.range (aa (ax J' ME rfl (aa (pv 0) (aa af ab))) ab)) (cq (i:=10) Ph.nd)
     (ac (bL (i:=11) Ph.nd (aB aU (aP (aa ai (aa ai (aa ai (aa ai ab))))) (ax J' ME rfl (aa (pv 0) (aa (aH bX af (aY eZ (by rfl) B.int LC (aa (cb kO (aB aU (pv 4) af) af) ab))) ab)))))
     (ag (aQ (ci KU KS KR bv (pv 9) (aa (aK (aa (aB aU (pv 5) (aH bX (aH bX (aB aU (pv 4) af) (aB aU (pv 4) af)) (pv 10))) (aa (pv 11) ab))) ab))))))
    (ag (aQ (ci KU KS KR bv (bx hu (pv 3) ai) (aa (aK (aa (pv 8) (aa (pv 9) (aa (ax DE hr rfl (aa (pv 0) (aa (pv 3) (aa (pv 9) (aa (pv 6) (aa (pv 7) ab)))))) ab)))) ab)))))))
   (ag (aw (pv 3))))))))))))),?_⟩
  refine⟨?_,?_⟩
  ·rintro σ H1 ⟨MH,rfl,VX,g1,b1⟩;refine fun d nd=>?_;have s2:=aj (o:=.dK []) nd;have ed2:(aM H1 d (.dK [])) d=some (.dK []):=ae;have g2:=g1.same s2;have pd:p≠d:=g1.ne nd;have dH:H d=none:=uB b1 g1 nd;have b2:=b1.same s2;generalize aM H1 d (.dK ([]:List (cQ×V)))=H2 at*;refine⟨_,rfl,p,21,rfl,g2,zd,zd,fun w0 H3 hw0 g3 b3=>?_⟩;refine⟨_,_,rfl,rfl,_,rfl,p,61,rfl,g3,zd,zd,fun c0 H4 hc0 g4 b4=>?_⟩;refine⟨_,_,rfl,rfl,_,rfl,p,9,rfl,g4,zd,zd,fun d0 H5 hd0 g5 b5=>?_⟩;have b25:=(b3.trans b4).trans b5;have ed5:=b25 _ _ ed2 pd.symm;obtain⟨kv,ek,lk,w1,w2,w3⟩:=Kq (.int ((4+w0:Nat):Int)) (.int ((4+c0:Nat):Int)) (.int ((d0:Nat):Int));refine⟨ed5,[(Sum.inr Sr,.int ((4+w0:Nat):Int)),(Sum.inr Sw,.int ((4+c0:Nat):Int)),(Sum.inr Sx,.int ((d0:Nat):Int))],rfl,by show 3<=15;decide,?_⟩;have WY:eC [] [(Sum.inr Sr,V.int ((4+w0:Nat):Int)),(Sum.inr Sw,V.int ((4+c0:Nat):Int)),(Sum.inr Sx,V.int ((d0:Nat):Int))]=kv:=ek;rw[WY];have ed6:(aM H5 d (.dK kv)) d=some (.dK kv):=ae;have g6:OX (aM H5 d (.dK kv)) p:=let⟨x,y,z,e⟩:=g5;⟨x,y,z,eY e ed5⟩;have b6:O4 p H (aM H5 d (.dK kv)):=fun b o e nb=>by rw[au (ao e dH)];exact(b2.trans b25) b o e nb
   generalize aM H5 d (.dK kv)=H6 at*;clear ed5 g5 g4 g3 g2 b25 b5 b4 b3 b2 b1 g1 ed2 s2 nd;refine⟨?_,?_⟩;rotate_left
   ·refine⟨_,rfl,p,4,rfl,g6,zd,zd,fun a0 H7 ha0 g7 b7=>?_⟩;refine⟨_,_,rfl,rfl,_,rfl,p,4,rfl,g7,zd,zd,fun b0 H8 hb0 g8 b8=>?_⟩;refine⟨OT,fun MI nmn=>?_⟩;have b68:=b7.trans b8;have ed8:=b68 _ _ ed6 pd.symm;have b08:=b6.trans b68;have s9:=aj (o:=.lst [.int ((1+a0:Nat):Int),.int (b0:Nat)]) nmn;exact⟨MH,d,MI,1+a0,b0,kv,4+w0,4+c0,d0,rfl,VX,g8.same s9,b08.same s9,dH,pd,s9 _ _ ed8,ae,g8.ne nmn,zo,zo,zo,lk,zo,zo,zo,zo,zo,w1,w2,w3⟩
   clear g6 b6 ed6 dH pd ek WY w1 w2 w3 lk hw0 hc0 hd0 VX;rintro σ H9 ⟨MH,d,MI,A,b,kv,W,cl,dp,rfl,VX,g9,b09,dH,pd,ed9,emn,pmn,YX,YW,YU,lk,XH,Vj,Yc,U3,Xf,w1,w2,w3⟩;refine⟨?_,?_⟩
   ·clear emn g9 b09 ed9 pmn;rintro σ H1 ⟨d,MI,ln,A,b,MH,zs,kv,W,cl,dp,⟨rfl,T1,VX,YX,YW,YU,X2,VL,U1,XH,Vj,Yc,U3,Xf,_,k1,k2,k3⟩,Ya⟩;refine⟨_,rfl,_,rfl,MI,_,_,_,rfl,rfl,OO.of T1.emn,bH,(A:Int),rfl,ln,_,rfl,OO.of T1.eln,fun lp Zi=>?_⟩;rw[Fp,nS];generalize zz:aM H1 lp _=H2;have s2:=(nw Zi zz).1;have ep2:H2 lp=some (.lst (ay (zs.take A))):=(nw Zi zz).2;clear zz;have T2:=T1.same s2;refine⟨_,rfl,d,_,rfl,P4.k (k:=kS So) T2.ed zo,?_⟩;have T3:=T2.put (bz kv (kS So) (.ref lp));have ep3:=eY (kv':=bz kv (kS So) (.ref lp)) ep2 T2.ed;generalize aM H2 d (.dK (bz kv (kS So) (.ref lp)))=H3 at*;clear T2 ep2 s2 T1 Zi;refine⟨_,rfl,_,rfl,MI,_,_,_,rfl,rfl,OO.of T3.emn,bH,(A:Int),rfl,_,rfl,MI,_,_,_,rfl,rfl,OO.of T3.emn,bH,_,rfl,MI,_,_,_,rfl,rfl,OO.of T3.emn,cM,_,_,rfl,rfl,((A+b:Nat):Int),rfl,ln,_,rfl,OO.of T3.eln,fun lm Zj=>?_⟩;rw[Fq _ A b (by rw[dm];lia),xw,nS];generalize zz:aM H3 lm _=H4;have s4:=(nw Zj zz).1;have em4:H4 lm=some (.lst (ay ((zs.drop A).take b))):=(nw Zj zz).2;clear zz;have T4:=T3.same s4;have ep4:=s4 _ _ ep3;have l1:=lY kv (kS So) (.ref lp);refine⟨_,rfl,d,_,rfl,P4.k (k:=kS Ss) T4.ed zo,?_⟩;have l2:=lY (bz kv (kS So) (.ref lp)) (kS Ss) (.ref lm);have T5:=T4.put (bz (bz kv (kS So) (.ref lp)) (kS Ss) (.ref lm));have Wk:=eY (kv':=bz (bz kv (kS So) (.ref lp)) (kS Ss) (.ref lm)) ep4 T4.ed;have Ww:=eY (kv':=bz (bz kv (kS So) (.ref lp)) (kS Ss) (.ref lm)) em4 T4.ed;generalize aM H4 d (.dK (bz (bz kv (kS So) (.ref lp)) (kS Ss) (.ref lm)))=H5 at*;have j1:bq (bz (bz kv (kS So) (.ref lp)) (kS Ss) (.ref lm)) (kS Sr)=some (.int (W:Nat)):=by rw[bR zk,bR zk];exact k1
    have j2:bq (bz (bz kv (kS So) (.ref lp)) (kS Ss) (.ref lm)) (kS Sw)=some (.int (cl:Nat)):=by rw[bR zk,bR zk];exact k2
    have j3:bq (bz (bz kv (kS So) (.ref lp)) (kS Ss) (.ref lm)) (kS Sx)=some (.int (dp:Nat)):=by rw[bR zk,bR zk];exact k3
    have j4:bq (bz (bz kv (kS So) (.ref lp)) (kS Ss) (.ref lm)) (kS So)=some (.ref lp):=by rw[bR zk,eP]
    have j5:bq (bz (bz kv (kS So) (.ref lp)) (kS Ss) (.ref lm)) (kS Ss)=some (.ref lm):=by rw[eP]
    have l12:(bz (bz kv (kS So) (.ref lp)) (kS Ss) (.ref lm)).length<=5:=by lia
    generalize bz (bz kv (kS So) (.ref lp)) (kS Ss) (.ref lm)=kv5 at*;clear T4 T3 ep4 ep3 em4 s4 l1 l2 k1 k2 k3 Zj Ya;refine⟨?_,?_⟩
    ·clear T5 Wk Ww j1 j2 j3 j4 j5 l12;rintro σ H6 ⟨d,MI,ln,A,b,MH,zs,kv,W,cl,dp,lp,lm,gt,⟨rfl,T6,VX,YX,YW,YU,X2,VL,U1,XH,Vj,Yc,U3,Xf,_,k1,k2,k3⟩,Ya,k4,k5,k6,ep6,em6,US⟩;refine⟨OT,fun lk WM=>?_⟩;generalize zz:aM H6 lk _=H7;have⟨s7,ek7⟩:=nw WM zz;clear zz;have T7:=T6.same s7;have Y1:=s7 _ _ ep6;have Y2:=s7 _ _ em6;have n1:=ao T6.emn WM;have n2:=ao T6.eln WM;have n3:=ao ep6 WM;have n4:=ao em6 WM;have n5:H lk=none:=uB T6.bb T6.g WM;have n6:p≠lk:=T6.g.ne WM;refine⟨_,rfl,d,_,rfl,P4.k (k:=kS S5) T7.ed zo,?_⟩;have TL8:TL H p d MI ln lp lm lk A b W cl dp zs (bz kv (kS S5) (.ref lk)) gt (aM H7 d (.dK (bz kv (kS S5) (.ref lk)))):=
      ⟨T7.put _,by rw[bR zk];exact k1,by rw[bR zk];exact k2,by rw[bR zk];exact k3,by rw[bR zk];exact k4,by rw[bR zk];exact k5,by rw[bR zk];exact k6,by rw[eP],eY Y1 T7.ed,eY Y2 T7.ed,n1,n2,n3,n4,n5,n6⟩
     have ek8:=eY (kv':=bz kv (kS S5) (.ref lk)) ek7 T7.ed;generalize aM H7 d (.dK (bz kv (kS S5) (.ref lk)))=H8 at*;generalize bz kv (kS S5) (.ref lk)=kv8 at*;clear T7 T6 Y1 Y2 ep6 em6 s7 WM ek7 k1 k2 k3 k4 k5 k6 Ya;refine⟨OT,fun l9 n9=>?_⟩;generalize zz:aM H8 l9 _=H9;have⟨s9,e9⟩:=nw n9 zz;clear zz;have TL9:=TL8.same s9;have ek9:=s9 _ _ ek8;refine⟨_,rfl,l9,_,_,_,rfl,rfl,OO.of e9,bf (Hz VX),?_⟩;clear TL8 ek8 s9 e9 n9;refine⟨?_,?_⟩;rotate_left
     ·refine⟨_,rfl,p,2,rfl,TL9.tn.g,zd,zd,fun r Ha hra ga ba=>?_⟩;refine⟨_,_,rfl,rfl,OT,fun lb nb=>?_⟩;have sb:=aj (o:=.lst [V.int 2,.int 2,.int 4,.int (2+(r:Int))]) nb;have eb:(aM Ha lb (.lst [V.int 2,.int 2,.int 4,.int (2+(r:Int))])) lb=some (.lst [V.int 2,.int 2,.int 4,.int (2+(r:Int))]):=ae;refine⟨_,rfl,lb,_,_,_,rfl,rfl,OO.of eb,bf (HB r VX),?_⟩;exact⟨d,MI,ln,A,b,MH,zs,kv8,W,cl,dp,lp,lm,lk,gt,_,_,rfl,(TL9.but ga ba).same sb,sb _ _ (ba _ _ ek9 n6.symm),VX,HF VX hra,YX,YW,YU,X2,VL,U1,XH,Vj,Yc,U3,Xf,US⟩
     clear TL9 ek9 n1 n2 n3 n4 n5 n6;rintro σ H1 ⟨d,MI,ln,A,b,MH,zs,kv,W,cl,dp,lp,lm,lk,gt,c,k,rfl,UC,Yg,VX,hck,YX,YW,YU,X2,VL,U1,XH,Vj,Yc,U3,Xf,US⟩;refine⟨_,rfl,_,rfl,_,rfl,p,most,rfl,UC.tn.g,zo,zo,fun r H2 Yp g2 b2=>?_⟩;refine⟨_,_,rfl,rfl,OT,fun l3 n3=>?_⟩;have s3:=aj (o:=.lst [V.int 8,.int 1,.int 5,.int (1+(r:Int))]) n3;have e3:(aM H2 l3 (.lst [V.int 8,.int 1,.int 5,.int (1+(r:Int))])) l3=some (.lst [V.int 8,.int 1,.int 5,.int (1+(r:Int))]):=ae;refine⟨_,rfl,l3,_,_,_,rfl,rfl,OO.of e3,bf (HE r VX),?_⟩;have Y4:=(UC.but g2 b2).same s3;have ek3:=s3 _ _ (b2 _ _ Yg UC.pk.symm);have hmd:=HG VX hck Yp X_;obtain⟨hn1,hn8,hc3,WU,hk4⟩:=nU hmd;generalize ([8,1,5,1+r]:Ut).getD MH 0=nk at*;generalize aM H2 l3 (.lst [V.int 8,.int 1,.int 5,.int (1+(r:Int))])=H3 at*;refine⟨p,nk,rfl,Y4.tn.g,zo,fun lkn H4 kz Ya hknd hknf g4 b4 nkn ekn=>?_⟩;have VJ:=Y4.but g4 b4;have ek4:=b4 _ _ ek3 Y4.pk.symm;have WM:lkn≠lk:=(ao ek3 nkn).symm;clear Y4 UC ek3 Yg e3 s3 n3 g2 b2 nkn;refine⟨lkn,rfl,⟨_,OO.of ekn⟩,?_⟩;have h3l:zs.length=A+b+3:=X2;refine dN (K:=K) (a:=lkn) (xs:=ay kz) (fun i σ H'=>∃(v8 v9 UR UM:Option V)(us:Uv)(MJ:List Kn),σ=[some (.ref p),some (.int most),some (.int (MH:Nat)),some (.ref d),some (.ref MI),some (.ref ln),some (.int (c:Nat)),some (.int (k:Nat)),v8,v9,UR,UM]/\TL H p d MI ln lp lm lk A b W cl dp zs kv gt H'/\H' lkn=some (.lst (ay kz))/\H' lk=some (.lst us)/\Paired (Rl lk H') us MJ/\MJ.map Kn.name=kz.take i/\∀x∈MJ,KL W (zs.take A) ((zs.drop A).take b) (zs.drop (A+b)) c k x) ⟨_,_,_,_,[],[],rfl,VJ,ekn,ek4,.nil,rfl,fun x hx=>by cases hx⟩ (fun i σ H' _⟨_,_,_,_,_,_,_,_,e',_⟩=>OO.of e') ?_ ?_
     ·rintro i x σ H1 hx ⟨v8,v9,UR,UM,us,MJ,rfl,UC,Yy,Yg,ML,VY,hkk⟩;obtain⟨z,hz,rfl⟩:=wb hx;have hlus:=ML.length;have hi8:=(Kx.mp hz).1;have ZD:MJ.length=i:=by
       have:=d_ List.length VY;rw[Ky,KG]at this;have:=(Kx.mp hz).1;lia
      refine⟨OT,fun lf nlf=>?_⟩;generalize zz:aM H1 lf _=H2;have⟨s2,Yi⟩:=nw nlf zz;clear zz;have flk:lf≠lk:=(ao Yg nlf).symm;have plf:p≠lf:=UC.tn.g.ne nlf;have g2:=UC.tn.g.same s2;refine⟨_,rfl,p,4,rfl,g2,zd,zd,fun j4 H3 hj4 g3 b3=>⟨_,rfl,zo,zo,?_⟩⟩;rw[show((j4:Int)).toNat=j4 from Lu j4];have b13:O4 p H1 H3:=(dS s2).trans b3;refine dG (lo:=0) (n:=j4) (fun j σ H'=>∃(UR UM:Option V)(fu:Uv)(fs:Uu),σ=[some (.ref p),some (.int most),some (.int (MH:Nat)),some (.ref d),some (.ref MI),some (.ref ln),some (.int (c:Nat)),some (.int (k:Nat)),some (.str z),some (.ref lf),UR,UM]/\OX H' p/\O4 p H1 H'/\H' lf=some (.lst fu)/\Paired (Pc H') fu fs/\fs.map (·.1)=(zs.drop (A+b)).take j/\∀f∈fs,f.2∈db/\(f.2=(Su:Str)->0<b)) ⟨_,_,[],[],rfl,g3,b13,b3 _ _ Yi plf.symm,.nil,rfl,fun f hf=>by cases hf⟩ ?_ ?_
      ·rintro j σ H4 hj ⟨UR,UM,fu,fs,rfl,g4,b4,WZ,U',ZL,VZ⟩;have hj':j<j4:=hj;have e0:((0:Int)+(j:Int))=(j:Int):=by lia
       rw[e0];have VJ:=UC.but g4 b4;refine⟨OT,fun l5 n5=>?_⟩;generalize zz:aM H4 l5 _=H5;have⟨s5,e5⟩:=nw n5 zz;clear zz;have pl5:p≠l5:=g4.ne n5;have TL5:=VJ.same s5;obtain⟨hs3,hs4⟩:=Cy b;refine⟨_,rfl,_,rfl,MI,_,_,_,rfl,rfl,OO.of TL5.tn.emn,cM,_,_,rfl,rfl,.inr ⟨_,rfl,_,_,rfl,rfl,?_⟩⟩;refine⟨p,sd b,d_ (fun x=>[V.ref p,V.int x]) (Cv b),TL5.tn.g,zo,zo,fun si H6 hsi g6 b6=>?_⟩;obtain⟨hs1,X6⟩:=Cu (i:=si) zo;refine⟨l5,_,_,_,rfl,rfl,OO.of (b6 _ _ e5 pl5.symm),bf hs1,?_⟩;have Z8:=TL5.but g6 b6;have Wy:O4 p H4 H6:=(dS s5).trans b6;have ef6:=Wy _ _ WZ plf.symm;have Zo:OZ H4 H6:=eQ g4 Wy;have hin:A+b+j<zs.length:=by lia
       refine⟨_,rfl,.inl ⟨rfl,_,OO.of ef6⟩,?_⟩;refine⟨_,rfl,_,rfl,MI,_,_,_,rfl,rfl,OO.of Z8.tn.emn,bH,_,rfl,MI,_,_,_,rfl,rfl,OO.of Z8.tn.emn,cM,_,_,rfl,rfl,_,rfl,_,_,rfl,rfl,ln,_,_,_,rfl,rfl,OO.of Z8.tn.eln,HH hin,_,rfl,OT,fun t nt=>?_⟩;generalize zz:aM H6 t _=H7;have⟨s7,e7⟩:=nw nt zz;clear zz;have g7:=g6.same s7;have XN:=s7 _ _ ef6;have lfu:=U'.length;have lfs:fs.length=j:=by
        have:=d_ List.length ZL;rw[Ky,KG,Ls]at this;lia
       refine⟨lf,_,_,rfl,rfl,XN,zo,?_⟩;have kt:OZ H7 (aM H7 lf (.lst (fu++[.ref t]))):=fun b' xs eb=>by
        rw[au]
        ·exact eb
        ·rintro rfl;rw[XN]at eb;cases eb
       have k47:OZ H4 (aM H7 lf (.lst (fu++[.ref t]))):=fun b' xs eb=>kt _ _ (s7 _ _ (Zo _ _ eb));refine⟨_,_,fu++[.ref t],fs++[(zs[A+b+j],Re.getD si "")],rfl,?_,?_,ae,eu ⟨t,rfl,kt _ _ e7⟩ (bD (fun _ _ h=>Pc.kt2 k47 h) U'),?_,?_⟩
       ·obtain⟨x,y,z',ex⟩:=g7;exact⟨x,y,z',by rw[au plf];exact ex⟩
       ·intro b' o eb nb;rw[au (ao eb nlf)];exact s7 _ _ ((b4.trans Wy) b' o eb nb)
       ·rw[KJ,ZL,Lj,List.getElem?_drop,KF hin];rfl
       ·intro f hf;rcases La.mp hf with h|h
        ·exact VZ f h
        ·rw[Lb.mp h];exact⟨X6,Fx hsi⟩
      ·rintro σ H4 ⟨UR,UM,fu,fs,rfl,g4,b4,WZ,U',ZL,VZ⟩;have VJ:=UC.but g4 b4;have ek4:=b4 _ _ Yg UC.pk.symm;have lfs:fs.length=j4:=by
        have:=d_ List.length ZL;rw[Ky,KG,Ls]at this;lia
       refine⟨_,rfl,d,_,rfl,bA VJ.tn.ed VJ.v7,.inl ⟨rfl,_,OO.of ek4⟩,?_⟩;have UU:QD H4 d W (zs.take A) ((zs.drop A).take b):=⟨kv,lp,lm,VJ.tn.ed,VJ.v1,VJ.v4,VJ.v5,VJ.ep,VJ.em⟩;have hLx:Lx H4 p d lf W (zs.take A) ((zs.drop A).take b) fs:=⟨g4,UU,⟨fu,WZ,U'⟩,zo,XH,Vj,by rw[KG];lia,by rw[KG];lia,by rw[KG];lia,fun z hz=>U1 z (List.mem_of_mem_drop (LX hz)),fun z hz=>U1 z (LX hz)⟩;refine⟨_,rfl,_,rfl,_,rfl,_,rfl,_,rfl,_,rfl,_,rfl,p,d,lf,W,zs.take A,(zs.drop A).take b,fs,c,k,rfl,hLx,WU,hk4,zo,fun v H5 dd g5 b5 hv hdo=>⟨OT,fun t nt=>?_⟩⟩;have s6:=aj (o:=.tup [.str z,.ref lf,v]) nt;have e6:(aM H5 t (.tup [.str z,.ref lf,v])) t=some (.tup [.str z,.ref lf,v]):=ae;have g6:=g5.same s6;have ek6:=s6 _ _ (b5 _ _ ek4 UC.pk.symm);have Wy:O4 p H4 (aM H5 t (.tup [.str z,.ref lf,v])):=b5.same s6;have hv6:=hv.kt (av s6);generalize aM H5 t (.tup [V.str z,.ref lf,v])=H6 at*;have Z8:=VJ.but g6 Wy;have b16:O4 p H1 H6:=b4.trans Wy;refine⟨lk,_,_,rfl,rfl,ek6,zo,?_⟩;have kt:OZ H6 (aM H6 lk (.lst (us++[.ref t]))):=fun b' xs eb=>by
        rw[au]
        ·exact eb
        ·rintro rfl;rw[ek6]at eb;cases eb
       have k16:=eQ UC.tn.g b16;have Zo:=eQ g4 Wy;refine⟨_,_,_,_,us++[.ref t],MJ++[⟨z,fs,jf (zs.take A) ((zs.drop A).take b) fs dd,dd⟩],rfl,Z8.app ek6 _,?_,ae,?_,?_,?_⟩
       ·rw[au WM];exact b16 _ _ Yy (bS UC.tn.g Yy (cJ _))
       ·refine eu ⟨t,lf,v,rfl,flk,kt _ _ e6,⟨fu,?_,bD (fun _ _ h=>Pc.kt2 kt (Pc.kt2 Zo h)) U'⟩,hv6.kt kt⟩ (bD (fun _ _ h=>Rl.kp (fun b' xs eb=>kt _ _ (k16 _ _ eb)) (fun x' Xu nx XI ex Ux=>by
         rw[au nx];exact zP (lk:=lk) UC.tn.g b16 x' Xu nx XI ex Ux) h) ML)
        rw[au flk];exact Wy _ _ WZ plf.symm
       ·rw[KJ,VY,Lj,hz];rfl
       ·intro x VE;rcases La.mp VE with h|h
        ·exact hkk x h
        ·rw[Lb.mp h];exact⟨⟨j4,zo,ZL⟩,fun f hf=>(VZ f hf).1,fun f hf e=>by have:=(VZ f hf).2 e;rw[KG,Ls];lia,hdo,rfl⟩
     ·rintro σ H1 ⟨v8,v9,UR,UM,us,MJ,rfl,UC,Yy,Yg,ML,VY,hkk⟩;rw[dm,K7]at VY;have hln:MJ.length=nk:=by
       have:=d_ List.length VY;rw[Ky]at this;lia
      have sp3:=Fy zs A b;refine⟨_,rfl,q d H1 ⟨W,cl,dp,zs.take A,(zs.drop A).take b,gL ((zs.drop A).take b) gt,MJ⟩ gt kv lp lm lk us (zs.drop (A+b)) UC.tn.g UC.tn.bb ⟨UC.tn.ed,UC.v1,UC.v2,UC.v3,UC.v4,UC.v5,UC.v6,UC.v7,UC.ep,UC.em,Yg,ML⟩ ?_⟩;refine⟨XH,Vj,Yc,U3,Xf,?_,?_,?_,?_,?_,?_,?_,?_,rfl,?_,?_⟩
      ·show 1<=(zs.take A).length;rw[KG];lia
      ·show(zs.take A).length<=4;rw[KG];lia
      ·show((zs.drop A).take b).length<=3;rw[KG];lia
      ·rw[Ls];lia
      ·show(zs.take A++(zs.drop A).take b++zs.drop (A+b)).Nodup;rw[sp3];exact VL
      ·show ∀z∈zs.take A++(zs.drop A).take b++zs.drop (A+b),cP z;rw[sp3];exact U1
      ·show(MJ.map Kn.name).Nodup;rw[VY];exact hknd
      ·intro x VE;exact hknf _ (by rw[<-VY];exact K4.mpr ⟨x,VE,rfl⟩)
      ·intro g hg;have:=US g hg;show g<((zs.drop A).take b).length;rw[KG,Ls];lia
      ·refine⟨c,k,?_,hkk⟩;show uE MJ.length c k;rw[hln];exact hmd
    ·have emx:(if(b:Int)>1 then(b:Int)else 1)=((max 1 b:Nat):Int):=by split<;>lia
     refine⟨_,rfl,_,rfl,MI,_,_,_,rfl,rfl,OO.of T5.emn,cM,_,_,rfl,p,max 1 b,d_ (fun x=>[V.ref p,V.int x]) emx,T5.g,zo,zo,fun gg H6 hgg g6 b6=>⟨OT,fun Zn ngt=>?_⟩⟩;generalize zz:aM H6 Zn _=H7;have⟨s7,e7⟩:=nw ngt zz;clear zz;have plg:p≠Zn:=g6.ne ngt;have T7:=(T5.but g6 b6).same s7;have Y1:=s7 _ _ (b6 _ _ Wk (bS T5.g Wk (cJ _)));have Y2:=s7 _ _ (b6 _ _ Ww (bS T5.g Ww (cJ _)));have F':∀(H8:Hp)(gt:Option Nat),TN H p d MI ln A b zs kv5 H8->H8 lp=some (.lst (ay (zs.take A)))->H8 lm=some (.lst (ay ((zs.drop A).take b)))->(∀g,gt=some g->g<b)->uG H p most [some (.ref p),some (.int most),some (.int (MH:Nat)),some (.ref d),some (.ref MI),some (.ref ln),none,none,none,none,none,none] (aM H8 d (.dK (bz kv5 (kS SS) (gV gt)))):=by
      intro H8 gt T8 e1 e2 hg;have l3:=lY kv5 (kS SS) (gV gt);exact⟨d,MI,ln,A,b,MH,zs,_,W,cl,dp,lp,lm,gt,⟨rfl,T8.put _,VX,YX,YW,YU,X2,VL,U1,XH,Vj,Yc,U3,Xf,zo,by rw[bR zk];exact j1,by rw[bR zk];exact j2,by rw[bR zk];exact j3⟩,zo,by rw[bR zk];exact j4,by rw[bR zk];exact j5,by rw[eP],eY e1 T8.ed,eY e2 T8.ed,hg⟩
     refine⟨_,rfl,MI,_,_,_,rfl,rfl,OO.of T7.emn,cM,_,_,rfl,rfl,_,rfl,ce (fun h=>?_) (fun h=>?_)⟩
     ·have hb0:0<b:=by have:=h_ h;lia
      refine⟨_,rfl,p,2,rfl,T7.g,zd,zd,fun r H8 hr8 g8 b8=>⟨rfl,.inr ⟨_,rfl,?_⟩⟩⟩;have T8:=T7.but g8 b8;have ep8:=b8 _ _ Y1 (bS T7.g Y1 (cJ _));have em8:=b8 _ _ Y2 (bS T7.g Y2 (cJ _));have e8:=b8 _ _ e7 plg.symm;by_cases h0:r=0
      ·subst h0;refine⟨Zn,_,1,_,rfl,rfl,OO.of e8,cM,_,rfl,d,_,rfl,P4.k (k:=kS SS) T8.ed zo,?_⟩;exact F' H8 (some gg) T8 ep8 em8 fun g e=>by cases e;lia
      ·have hd0:decide (V.int (r:Nat)=V.int 0)=false:=b_ fun e=>by
        have:=V.int.inj e;lia
       rw[hd0];refine⟨Zn,_,0,_,rfl,rfl,OO.of e8,bH,_,rfl,d,_,rfl,P4.k (k:=kS SS) T8.ed zo,?_⟩;exact F' H8 none T8 ep8 em8 fun g e=>by cases e
     ·refine .inr ⟨_,rfl,?_⟩;refine⟨Zn,_,0,_,rfl,rfl,OO.of e7,bH,_,rfl,d,_,rfl,P4.k (k:=kS SS) T7.ed zo,?_⟩;exact F' H7 none T7 Y1 Y2 fun g e=>by cases e
   ·refine⟨_,rfl,_,rfl,MI,_,_,_,rfl,rfl,OO.of emn,bH,_,rfl,MI,_,_,_,rfl,rfl,OO.of emn,cM,_,_,rfl,rfl,_,_,rfl,rfl,p,A+b+3,rfl,g9,zo,fun ln Ha zs X2 VL U1 ga ba nln eln=>?_⟩;exact⟨d,MI,ln,A,b,MH,zs,kv,W,cl,dp,⟨rfl,⟨ga,b09.trans ba,dH,pd,ba _ _ ed9 pd.symm,ba _ _ emn pmn.symm,eln⟩,VX,YX,YW,YU,X2,VL,U1,XH,Vj,Yc,U3,Xf,zo,w1,w2,w3⟩,lk⟩
  ·refine⟨_,rfl,p,24,rfl,hp,zd,zd,fun r H1 Vq g1 b1=>?_⟩;refine⟨_,_,rfl,?_⟩;refine⟨min r 3,d_ (fun x=>[some (V.ref p),some (.int most),some (.int x),none,none,none,none,none,none,none,none,none]) ?_,zo,g1,b1⟩;show(if(r:Int)<3 then(r:Int)else 3)=((min r 3:Nat):Int);split<;>lia
end
end
def jg(c:Nat):Prop:=(97<=c/\c<=122)\/(48<=c/\c<=57)
def wc(h:jg c):TK.gA c=false:=by
 unfold jg at h;unfold TK.gA;simp;lia
def uH(h:jg c):TK.dR c=false:=by
 unfold jg at h;unfold TK.dR;simp;omega
def we(h:jg c)(r:Ut):TK.jy (c::r)=0:=by
 have hs:=uH h;unfold jg at h;cases r with
 |nil=>rw[TK.fJ,hs];rfl
 |cons d r=>
  rw[TK.eW,hs,e_ (by simp;lia)];rfl
def wf:∀t:Ut,(∀c∈t,jg c)->TK.run t=t.length
 |[],_=>rfl
 |c::r,h=>by
  have hc:=h c KB;rw[TK.cG,wc hc,we hc,e_ (by simp),wf r (fun d hd=>h d (KM _ hd)),KC];lia
def pU(MM:t≠[])(h:∀c∈t,jg c):TK.Tok t:=by
 cases t with
 |nil=>exact absurd rfl MM
 |cons c r=>
  have hc:=h c KB;have:=TK.ki (r:=r) (wc hc);have e:TK.one (c::r)=(c::r).length:=by
   unfold TK.one;rw[f_ (we hc r),wf _ h]
  rw[e,K7]at this;exact this
def ig(h:r≠[]):TK.jn sep (t::r)=t++(sep++TK.jn sep r):=by
 cases r with
 |nil=>exact absurd rfl h
 |cons u r=>rfl
def uI:∀{a b:List (Ut)},a≠[]->b≠[]->TK.jn sep (a++b)=TK.jn sep a++(sep++TK.jn sep b)
 |[],_,h,_=>absurd rfl h
 |[t],b,_,hb=>ig hb
 |t::u::r,b,_,hb=>by
  show TK.jn sep (t::(u::r++b))=_;rw[ig (by simp),uI (by simp) hb,ig (t:=t) (r:=u::r) (by simp)];simp
def wg:∀gs:List (List (Ut)),(∀g∈gs,g≠[])->TK.jn sep (gs.map (TK.jn sep))=TK.jn sep gs.flatten
 |[],_=>rfl
 |[g],_=>by simp[TK.jn]
 |g::h::r,hg=>by
  have ih:=wg (sep:=sep) (h::r) (fun x hx=>hg x (KM _ hx));have e:(g::h::r).flatten=g++(h::r).flatten:=LU;rw[K2,ig (by simp),ih,e];have MM:(h::r).flatten≠[]:=by
   have:=hg h (by simp);simp[this]
  rw[uI (hg g KB) MM]
def OY.len(h:OY z):(cp z).length<=8:=by
 have:=h.2.2.1;have e:z.length=(cp z).length:=by unfold cp;simp[Str.length]
 lia
def OY.pos(h:OY z):1<=(cp z).length:=by
 have:=h.2.1;have e:z.length=(cp z).length:=by unfold cp;simp[Str.length]
 lia
def JF:List (Ut):=[[40],[41],[123],[125],[91],[93],[44],[59],[61],[43],[45],[38],[124],[94],[60,60],[62,62],[60]]
structure Py(z:Str):Prop where
 tok:TK.Tok (cp z)
 le:(cp z).length<=8
 cl:(∀c∈cp z,jg c)\/cp z∈JF
def wj:Us:=["(",")","{","}","[","]",",",";","=","+","-","&","|","^","<<",">>","<"]
def Py.name(h:OY z):Py z:=by
 refine⟨pU (fun e=>?_) (fun c hc=>.inl (h.2.2.2 c hc)),h.len,.inl (fun c hc=>.inl (h.2.2.2 c hc))⟩;have:=h.pos;rw[e]at this;simp at this
section
variable{n:Nat}
def Py.num(h:n<100000000):Py (toString (n:Int):Str):=by
 have e:cp (toString (n:Int):Str)=dg n:=by rw[iH,gx]
 refine⟨?_,?_,.inl (fun c hc=>.inr (lO n c (by rw[e]at hc;exact hc)))⟩
 ·rw[e];refine pU (fun e=>?_) (fun c hc=>.inr (lO n c hc));have:=(gN n).1;rw[e]at this;simp at this
 ·rw[e];exact(gN n).2 8 zd h
def PH:Us:=[SE,Sw,Sx,So,Ss,SS,SF,S4,Sn,Su,"number",S2,"set",Ub,TD,Ta,Ts,SH,Tf,Tg,Sy]
def zT:(PH.all fun z=>decide (cp z≠[])&&decide ((cp z).length<=8)&&(cp z).all fun c=>decide (97<=c)&&decide (c<=122))=true:=by decide +kernel
def Py.word(h:z∈PH):Py z:=by
 have:=Li.mp zT z h;simp only[Mg,RR,Li]at this;exact⟨pU this.1.1 (fun c hc=>.inl (this.2 c hc)),this.1.2,.inl (fun c hc=>.inl (this.2 c hc))⟩
def JG(c:Nat)(h:TK.gA c=false)(h1:TK.dR c=true):TK.Tok [c]:=by
 have:=TK.ki (c:=c) (r:=[]) h;have e:TK.one [c]=1:=by
  unfold TK.one;rw[TK.fJ,f_ h1];rfl
 rw[e]at this;exact this
def Py.sign(h:z∈wj):Py z:=by
 have e:wj=([[40],[41],[123],[125],[91],[93],[44],[59],[61],[43],[45],[38],[124],[94],[60,60],[62,62],[60]]:List (Ut)).map S:=by decide +kernel
 rw[e]at h;obtain⟨t,ht,rfl⟩:=K4.mp h;have e2:TK.Tok [60,60]:=by
  have:=TK.ki (c:=60) (r:=[60]) rfl;exact this
 have e3:TK.Tok [62,62]:=by
  have:=TK.ki (c:=62) (r:=[62]) rfl;exact this
 simp only[KH,KY,j_]at ht;rcases ht with rfl|rfl|rfl|rfl|rfl|rfl|rfl|rfl|rfl|rfl|rfl|rfl|rfl|rfl|rfl|rfl|rfl
 all_goals first
  |exact⟨e2,by rw[gx];decide,.inr (by rw[gx];decide)⟩
  |exact⟨e3,by rw[gx];decide,.inr (by rw[gx];decide)⟩
  |exact⟨JG _ rfl rfl,by rw[gx];decide,.inr (by rw[gx];decide)⟩
def sg(h:o∈O8):o∈wj:=by
 have:∀z∈O8,z∈wj:=by decide +kernel
 exact this o h
def JH(hw:w<=24)(h:n<2^w):n<100000000:=by
 have:=K0 (n:=2) zd hw;have e:2^24=16777216:=by decide
 lia
def fM{w:Nat}(hw:w<=24):∀{m:Nat}{x:Ex},cV w m x->∀z∈c8 x,Py z
 |0,.num n,h,z,hz=>by rw[Lb.mp hz];exact .num (JH hw h)
 |_+1,.num n,h,z,hz=>by rw[Lb.mp hz];exact .num (JH hw h)
 |0,.nm y,h,z,hz=>by rw[Lb.mp hz];exact .name h
 |_+1,.nm y,h,z,hz=>by rw[Lb.mp hz];exact .name h
 |0,.cell _,h,_,_=>absurd h (by simp[cV])
 |m+1,.cell e,h,z,hz=>by
  simp only[c8,KH,La,KY,j_]at hz;rcases hz with rfl|hz|rfl
  ·exact .sign zk
  ·exact fM hw (m:=m) (x:=e) h z hz
  ·exact .sign zk
 |0,.two _ _ _,h,_,_=>absurd h (by simp[cV])
 |m+1,.two o x y,h,z,hz=>by
  simp only[c8,KH,La,KY,j_]at hz;rcases hz with rfl|hz|rfl|hz|rfl
  ·exact .sign zk
  ·exact fM hw (m:=m) (x:=x) h.2.1 z hz
  ·exact .sign (sg h.1)
  ·exact fM hw (m:=m) (x:=y) h.2.2 z hz
  ·exact .sign zk
def DK(hw:w<=24)(h:jM w g):∀z∈i4 g,Py z:=by
 intro z hz;cases g with
 |cell a e=>
  simp only[i4,KH,La,KY,j_]at hz;rcases hz with rfl|hz|rfl|rfl|hz|rfl
  ·exact .sign zk
  ·exact fM hw h.1 z hz
  ·exact .sign zk
  ·exact .sign zk
  ·exact fM hw h.2 z hz
  ·exact .sign zk
 |nm y e=>
  simp only[i4,KH,La,KY,j_]at hz;rcases hz with rfl|rfl|hz|rfl
  ·exact .name h.1
  ·exact .sign zk
  ·exact fM hw h.2 z hz
  ·exact .sign zk
def DL(h:ph e):∀z∈gC e,Py z:=by
 intro z hz;cases e with
 |w0 s=>
  rw[Lb.mp hz];have:∀y∈([(S4:Str),(Tf:Str),(Tg:Str)]:Us),y∈PH:=by decide +kernel
  exact .word (this _ h)
 |w1 s y=>
  simp only[gC,KH,KY,j_]at hz;rcases hz with rfl|rfl
  ·have:∀y∈([(Ts:Str),(SH:Str),(Sy:Str)]:Us),y∈PH:=by decide +kernel
   exact .word (this _ h.1)
  ·exact .name h.2.1
def wk(hw:w<=24):∀{s:List Gs},(∀g∈s,jM w g)->∀z∈bZ s,Py z
 |[],_,z,hz=>by cases hz
 |g::r,h,z,hz=>by
  simp only[bZ,KH,La]at hz;rcases hz with rfl|hz|hz
  ·exact .word zk
  ·exact DK hw (h g KB) z hz
  ·exact wk hw (fun x hx=>h x (KM _ hx)) z hz
def nV(hw:w<=24):∀{m:Nat}{b:Bd},fA w m b->∀z∈dk b,Py z
 |m,.leaf s e,h,z,hz=>by
  have h2:∀g∈s,jM w g:=by cases m<;>exact h.2.1
  have h3:ph e:=by cases m<;>exact h.2.2.2
  simp only[dk,KH,La,KY,j_]at hz;rcases hz with rfl|hz|hz|rfl
  ·exact .sign zk
  ·exact wk hw h2 z hz
  ·exact DL h3 z hz
  ·exact .sign zk
 |0,.ite _ _ _ _,h,_,_=>absurd h (by simp[fA])
 |m+1,.ite t y a b,h,z,hz=>by
  simp only[dk,KH,La,KY,j_]at hz;rcases hz with rfl|rfl|hz|hz|rfl|hz|rfl
  ·exact .sign zk
  ·exact .word zk
  ·cases t with
   |true=>
    simp at hz;rcases hz with rfl|rfl
    ·exact .word zk
    ·exact .name h.1
   |false=>
    simp at hz;subst hz;exact .name h.1
  ·exact nV hw (m:=m) h.2.1 z hz
  ·exact .word zk
  ·exact nV hw (m:=m) h.2.2 z hz
  ·exact .sign zk
def kG:∀{m:Nat}{x:Ex},cV w m x->cV w (m+1) x
 |0,.num _,h=>h
 |_+1,.num _,h=>h
 |0,.nm _,h=>h
 |_+1,.nm _,h=>h
 |0,.cell _,h=>absurd h (by simp[cV])
 |m+1,.cell e,h=>kG (m:=m) (x:=e) h
 |0,.two _ _ _,h=>absurd h (by simp[cV])
 |m+1,.two o x y,h=>⟨h.1,kG (m:=m) (x:=x) h.2.1,kG (m:=m) (x:=y) h.2.2⟩
def kH(h:cV w m x)(hn:m<=n):cV w n x:=by
 induction hn with
 |refl=>exact h
 |step _ ih=>exact kG ih
structure HI(ps ms:Us)(fs:Uu):Prop where
 p:∀z∈ps,cP z
 m:∀z∈ms,cP z
 f:∀f∈fs,cP f.1
def fU(h:fs[j]?=some (z,st)):zO fs j=z:=by
 unfold zO;rw[KP,h];rfl
def cK(hL:∀z∈L,cP z)(hf:∀f∈fs,cP f.1)(h:cB L st fs b n):cP (fF L fs b n):=by
 unfold cB at h;unfold fF;cases b with
 |true=>
  rw[f_ rfl]at h⊢;obtain⟨z,hz⟩:=h;rw[fU hz];exact hf _ (KQ hz)
 |false=>
  rw[e_ zd]at h⊢;rw[KP,KF h];exact hL _ (Lo h)
def dc(G:HI ps ms fs):∀{m:Nat}{e:Ed},bj W ps ms fs m e->cV W m (dD ps ms fs e)
 |0,.num _,h=>by simpa[bj,cV,dD]using h
 |_+1,.num _,h=>by simpa[bj,cV,dD]using h
 |m,.fld j,h=>by
  have h':∃z:Str,fs[j]?=some (z,("number":Str)):=by cases m<;>simpa[bj]using h
  obtain⟨z,hz⟩:=h';have:OY (zO fs j):=by rw[fU hz];exact(G.f _ (KQ hz)).1
  cases m<;>exact this
 |m,.pl b n,h=>by
  have h':cB ps Sn fs b n:=by cases m<;>simpa[bj]using h
  have:=(cK G.p G.f h').1;cases m<;>exact this
 |m,.mk b n,h=>by
  have h':cB ms Su fs b n:=by cases m<;>simpa[bj]using h
  have:=(cK G.m G.f h').1;cases m<;>exact this
 |0,.cell _,h=>absurd h (by simp[bj])
 |m+1,.cell e,h=>dc G (m:=m) (e:=e) (by simpa[bj]using h)
 |0,.two _ _ _,h=>absurd h (by simp[bj])
 |m+1,.two o x y,h=>by
  have h':o∈O8/\bj W ps ms fs m x/\bj W ps ms fs m y:=by simpa[bj]using h
  exact⟨h'.1,dc G (m:=m) h'.2.1,dc G (m:=m) h'.2.2⟩
def DM(G:HI ps ms fs)(hm:m<=3)(h:gy W ps ms fs m g):jM W (dE ps ms fs g):=by
 cases g with
 |cell a e=>exact⟨kH (dc G h.1) zo,kH (dc G h.2) hm⟩
 |pl b n e=>exact⟨(cK G.p G.f h.1).1,kH (dc G h.2) hm⟩
 |mk b n e=>exact⟨(cK G.m G.f h.1).1,kH (dc G h.2) hm⟩
def DP(hf:∀f∈fs,cP f.1)(h:rZ fs e):ph (gB fs e):=by
 cases e with
 |w0 s=>exact h
 |fault z=>exact⟨zk,h.1,fun _=>h.2⟩
 |go s j=>
  obtain⟨h1,z,hz⟩:=h;refine⟨?_,?_,fun e=>?_⟩
  ·have:∀y∈([Ts,SH]:Us),y∈([(Ts:Str),(SH:Str),(Sy:Str)]:Us):=by decide +kernel
   exact this s h1
  ·rw[fU hz];exact(hf _ (KQ hz)).1
  ·rw[fU hz];exact(hf _ (KQ hz)).2
def Fz(ps ms:Us)(fs:Uu)(g:Sd):(dE ps ms fs g).isCell=g.isCell:=by cases g<;>rfl
def sh:∀{l:List α},(l.filter f).length<=1->∀i j:Nat,∀g h,l[i]?=some g->l[j]?=some h->f g=true->f h=true->i=j
 |[],_,i,j,g,h,e,_,_,_=>by simp at e
 |x::r,hl,0,0,_,_,_,_,_,_=>rfl
 |x::r,hl,0,j+1,g,h,e1,e2,h1,h2=>by
  simp at e1 e2;subst e1;rw[LY h1,KC]at hl;have:h∈r.filter f:=Mi.mpr ⟨KQ e2,h2⟩;have:=List.length_pos_of_mem this;lia
 |x::r,hl,i+1,0,g,h,e1,e2,h1,h2=>by
  simp at e1 e2;subst e2;rw[LY h2,KC]at hl;have:g∈r.filter f:=Mi.mpr ⟨KQ e1,h1⟩;have:=List.length_pos_of_mem this;lia
 |x::r,hl,i+1,j+1,g,h,e1,e2,h1,h2=>by
  have YQ:(r.filter f).length<=1:=by
   by_cases hx:f x=true
   ·rw[LY hx,KC]at hl;lia
   ·rw[Mr hx]at hl;exact hl
  have:=sh YQ i j g h (by simpa using e1) (by simpa using e2) h1 h2;lia
def nW(G:HI ps ms fs)(hm:m<=3):∀{c n:Nat}{d:Dd},fE W ps ms fs m c d->c<=n->fA W n (jf ps ms fs d)
 |c,n,.leaf s e,h,_=>by
  have h':s.length<=4/\(s.filter Sd.isCell).length<=1/\(∀g∈s,gy W ps ms fs m g)/\rZ fs e:=by cases c<;>exact h
  have hb:(s.map (dE ps ms fs)).length<=4/\(∀g∈s.map (dE ps ms fs),jM W g)/\(∀i j:Nat,∀g h,(s.map (dE ps ms fs))[i]?=some g->(s.map (dE ps ms fs))[j]?=some h->g.isCell=true->h.isCell=true->i=j)/\ph (gB fs e):=by
   refine⟨by rw[Ky];exact h'.1,fun g hg=>?_,fun i j g h e1 e2 h1 h2=>?_,DP G.f h'.2.2.2⟩
   ·obtain⟨g0,XE,rfl⟩:=K4.mp hg;exact DM G hm (h'.2.2.1 g0 XE)
   ·rw[KZ]at e1 e2;cases f1:s[i]? with
    |none=>rw[f1]at e1;cases e1
    |some g1=>
     cases f2:s[j]? with
     |none=>rw[f2]at e2;cases e2
     |some g2=>
      rw[f1]at e1;rw[f2]at e2;cases e1;cases e2;rw[Fz]at h1 h2;exact sh h'.2.1 i j g1 g2 f1 f2 h1 h2
  cases n<;>exact hb
 |0,_,.ite _ _ _,h,_=>absurd h (by simp[fE])
 |c+1,0,.ite _ _ _,_,hc=>by lia
 |c+1,n+1,.ite t y z,h,hc=>by
  obtain⟨h1,h2,h3⟩:=h;refine⟨?_,nW G hm (c:=c) (n:=n) h2 zo,nW G hm (c:=c) (n:=n) h3 zo⟩;cases t with
  |top b n=>exact(cK G.p G.f h1).1
  |pl b n=>exact(cK G.p G.f h1).1
  |mk b n=>exact(cK G.m G.f h1).1
end
def cZ(z:Str):aC [z]=cp z:=rfl
def bK(h:r≠[]):aC (z::r)=cp z++(32::aC r):=by
 unfold aC;rw[K2,ig (by simpa using h)];rfl
def eM(ha:a≠[])(hb:b≠[]):aC (a++b)=aC a++(32::aC b):=by
 unfold aC;rw[KJ,uI (by simpa using ha) (by simpa using hb)];rfl
def gk(gs:List (Us))(h:∀g∈gs,g≠[]):TK.jn [32] (gs.map aC)=aC gs.flatten:=by
 have:=wg (sep:=[32]) (gs.map fun g=>g.map cp) (fun g hg=>by
  obtain⟨g0,XE,rfl⟩:=K4.mp hg;simpa using h g0 XE)
 unfold aC;rw[Lz]at this;rw[List.map_flatten];exact this
def bO(h:∀z∈zs,Py z):(aC zs).length<=9*zs.length:=by
 have h3:=iJ 8 (zs.map cp) fun t ht=>by
  obtain⟨z,hz,rfl⟩:=K4.mp ht;exact(h z hz).le
 have h4:=uA [32] (zs.map cp);rw[Ky]at*;simp only[KC,K3]at*;unfold aC;lia
def mz(x:Ex):c8 x≠[]:=by cases x<;>simp[c8]
def CA:(("[ ":Str)=S [91,32])/\((" ]":Str)=S [32,93]):=by decide +kernel
def nX(l:Us)(h:l≠[]):[91,32]++aC l++[32,93]=aC (("[":Str)::(l++[("]":Str)])):=by
 rw[bK (by simp),eM h (by simp),cZ];have e1:cp ("[":Str)=[91]:=by decide +kernel
 have e2:cp ("]":Str)=[93]:=by decide +kernel
 rw[e1,e2];simp
def zU(o:Str)(a b:Us)(ha:a≠[])(hb:b≠[]):TK.jn [32] [cp "(",aC a,cp o,aC b,cp ")"]=aC (("(":Str)::(a++o::(b++[(")":Str)]))):=by
 have:=gk [[("(":Str)],a,[o],b,[(")":Str)]] (by
  intro g hg;simp only[KH,KY,j_]at hg;rcases hg with rfl|rfl|rfl|rfl|rfl
  ·simp
  ·exact ha
  ·simp
  ·exact hb
  ·simp)
 have e:([[("(":Str)],a,[o],b,[(")":Str)]]:List (Us)).flatten=(("(":Str)::(a++o::(b++[(")":Str)]))):=by simp
 rw[e]at this;exact this
structure Tx(H:Hp)(d lf:Ul)(W:Nat)(ps ms:Us)(fs:Uu):Prop where
 t:QD H d W ps ms
 f:QE H lf fs
 w24:W<=24
 G:HI ps ms fs
def Tx.same(h:Tx H d lf W ps ms fs)(s:OM H H'):Tx H' d lf W ps ms fs:=⟨h.t.same s,h.f.same s,h.w24,h.G⟩
inductive wl(vs:Uv)(H:Hp)(Q:VK)(Z3:XK):Prop
 |mk(v l lf L fs st:_)(b:Bool)(n:Nat):vs=[v,.ref l,.ref lf]->Qy H b n v->H l=some (.lst (ay L))->QE H lf fs->cB L st fs b n->Q (.str (fF L fs b n)) H->wl vs H Q Z3
inductive zV(m:Nat)(vs:Uv)(H:Hp)(Q:VK):Prop
 |mk(v d lf W ps ms fs e:_):vs=[v,.ref d,.ref lf]->Qc H e v->Tx H d lf W ps ms fs->m<=3->bj W ps ms fs m e->(∀H',OM H H'->Q (.str (S (aC (c8 (dD ps ms fs e))))) H')->zV m vs H Q
def wm :Nat->Sp
 |0=>jN
 |m+1=>fun vs H Q _=>zV m vs H Q
variable{n:Nat}
def zW{H:Hp}{lf:Ul}{fs:Uu}{z st:Str}(h:QE H lf fs)(e:fs[n]?=some (z,st)):∃us pf,H lf=some (.lst us)/\us[n]?=some (.ref pf)/\H pf=some (.tup [.str z,.str st]):=by
 obtain⟨us,e1,hp⟩:=h;obtain⟨u,hu,pf,rfl,U8⟩:=rR hp e;exact⟨us,pf,e1,hu,U8⟩
section
def HJ:az [SM,SZ,Sk] [SM,SZ,Sk] (ak lG):=cv zk
variable{fd:Ur}{f:Ul}
def FA(F:O0 K "_law_sel_text" "_law_sel_text" lG f fd):OQ P w K mg base bQ 1 f fd [SM,SZ,Sk] wl:=by
 have ZZ:=HJ
 walk_at "o"
 ·obtain⟨v,l,lf,L,fs,st,b,n,rfl,⟨sq,rfl,hq⟩,hl,hF,hS,q⟩:=h;refine⟨_,ac (aT (aq aX (aB aJ (pv 0) af) ai) (ag (aw (aB aU (pv 1) (aB aJ (pv 0) af)))) aG)
   (ag (aw (aB aJ (aB aU (pv 2) (aB aJ (pv 0) af)) af))),?_⟩
  refine⟨_,rfl,sq,_,_,_,rfl,rfl,ON.of hq,bH,rfl,_,rfl,?_⟩;unfold cB at hS;unfold fF at q;cases b with
  |true=>
   rw[f_ rfl]at hS q;obtain⟨z,hz⟩:=hS;rw[fU hz]at q;obtain⟨us,pf,e1,e2,e3⟩:=zW hF hz;refine bi zk ⟨_,rfl,_,rfl,sq,_,_,_,rfl,rfl,ON.of hq,cM,lf,_,_,_,rfl,rfl,OO.of e1,bf e2,pf,_,_,_,rfl,rfl,ON.of e3,bH,q⟩
  |false=>
   rw[e_ zd]at hS q;rw[KP,KF hS]at q;refine bF (a_ rfl) ⟨_,rfl,_,rfl,sq,_,_,_,rfl,rfl,ON.of hq,cM,l,_,_,_,rfl,rfl,OO.of hl,bf (v:=.str L[n]) (by unfold ay;rw[KZ,KF hS];rfl),q⟩
def HK:az [Ud,Si,Sk] [Ud,Si,Sk] (ak jH):=cv zk
def CB:∀o∈O8,o≠("number":Str)/\o≠("field":Str)/\o≠(Sn:Str)/\o≠(Su:Str)/\o≠("cell":Str):=by decide +kernel
def pV{n m:Nat}(F:O0 K "_law_expr_text" "_law_expr_text" jH f fd)(B:Bl mg)(ST:Fn P w K mg base "_law_sel_text" 1 [SM,SZ,Sk] wl)(EX:Fn P w K mg base "_law_expr_text" n [Ud,Si,Sk] (wm m))(hn:1<=n):OQ P w K mg base bQ (n+1) f fd [Ud,Si,Sk] (wm (m+1)):=by
 have ZZ:=HK
 walk_at "o"
 ·obtain⟨v,d,lf,W,ps,ms,fs,e,rfl,hV,hX,X_,hE,q⟩:=h;have hu:=eo hr;have ME:OU 1 _:=hr.mono zo;have sz:(100000:Nat)<=sizeLine:=by decide
  have hxo:=dc hX.G hE;have hln:=bO (fM hX.w24 hxo);have hxl:=cO hxo;have h32:2^(m+2)<=32:=Ll (K0 zd (by lia:m+2<=5)) zd;refine⟨_,ac (aT (aq aX (aB aJ (pv 0) af) ai) (ag (aw (aY eU (by rfl) B.str eE (aa (aB aJ (pv 0) af) ab)))) aG)
   (ac (aT (aq aX (aB aJ (pv 0) af) ai) (ag (aw (aB aJ (aB aU (pv 2) (aB aJ (pv 0) af)) af))) aG)
   (ac (aT (PW.pt (fe (aq aX (aB aJ (pv 0) af) ai) (dM (aq aX (aB aJ (pv 0) af) ai))))
    (ag (aw (ax ST ME rfl (aa (aB aJ (pv 0) af) (aa (bx hu (pv 1) (aH aR (aB aJ (pv 0) af) ai)) (aa (pv 2) ab)))))) aG)
   (ac (aT (aq aX (aB aJ (pv 0) af) ai) (ag (aw (aH aR (aH aR ai (ax EX hr rfl (aa (aB aJ (pv 0) af) (aa (pv 1) (aa (pv 2) ab))))) ai))) aG)
   (ag (aw (ci Lr Lw Lv eX ai (aa (aP (aa ai (aa (ax EX hr rfl (aa (aB aJ (pv 0) af) (aa (pv 1) (aa (pv 2) ab)))) (aa (aB aJ (pv 0) af) (aa (ax EX hr rfl (aa (aB aJ (pv 0) af) (aa (pv 1) (aa (pv 2) ab)))) (aa ai ab)))))) ab))))))),?_⟩
  have selc:∀(st:Str)(p:Ul)(u:V)(b:Bool)(i:Nat),(st=Sn\/st=Su)->H p=some (.tup [.str st,u])->Qy H b i u->cB (gj ps ms st) st fs b i->(∀H',OM H H'->Q (.str (fF (gj ps ms st) fs b i)) H')->∃l,Pj H d (.str (st++"s")) (some (.ref l))/\H l=some (.lst (ay (gj ps ms st))):=fun st p u b i UK _ _ _ _=>iK hX.t UK;cases e with
  |num i=>
   obtain⟨p,rfl,hp⟩:=hV;have hi:i<2^W:=by cases m<;>simpa[bj]using hE
   have hi25:i<2^25:=by have:=JH hX.w24 hi;have:2^W<=2^24:=K0 zd hX.w24;lia
   refine⟨_,rfl,p,_,_,_,rfl,rfl,ON.of hp,bH,rfl,_,rfl,bF (a_ rfl) ?_⟩;refine⟨_,rfl,p,_,_,_,rfl,rfl,ON.of hp,cM,_,rfl,ic hi25,?_⟩;have:=q H (OM.refl _);have e1:aC (c8 (dD ps ms fs (.num i)))=cp (toString (i:Int):Str):=rfl;rw[e1,gw]at this;exact this
  |fld j=>
   obtain⟨p,rfl,hp⟩:=hV;have h':∃z:Str,fs[j]?=some (z,("number":Str)):=by cases m<;>simpa[bj]using hE
   obtain⟨z,hz⟩:=h';obtain⟨us,pf,e1,e2,e3⟩:=zW hX.f hz;refine⟨_,rfl,p,_,_,_,rfl,rfl,ON.of hp,bH,rfl,_,rfl,bi zk ?_⟩;refine⟨_,rfl,p,_,_,_,rfl,rfl,ON.of hp,bH,rfl,_,rfl,bF (a_ rfl) ?_⟩;refine⟨_,rfl,_,rfl,p,_,_,_,rfl,rfl,ON.of hp,cM,lf,_,_,_,rfl,rfl,OO.of e1,bf e2,pf,_,_,_,rfl,rfl,ON.of e3,bH,?_⟩;have:=q H (OM.refl _);have e4:aC (c8 (dD ps ms fs (.fld j)))=cp (zO fs j):=rfl;rw[e4,gw,fU hz]at this;exact this
  |pl b i=>
   obtain⟨p,u,rfl,hp,hs⟩:=hV;have h':cB ps Sn fs b i:=by cases m<;>simpa[bj]using hE
   refine⟨_,rfl,p,_,_,_,rfl,rfl,ON.of hp,bH,rfl,_,rfl,bi zk ?_⟩;refine⟨_,rfl,p,_,_,_,rfl,rfl,ON.of hp,bH,rfl,_,rfl,bi zk ?_⟩;refine⟨_,rfl,p,_,_,_,rfl,rfl,ON.of hp,bH,rfl,_,rfl,bF (a_ rfl) (fC ?_)⟩;obtain⟨l,dg,el⟩:=iK hX.t (.inl rfl);refine⟨_,rfl,p,_,_,_,rfl,rfl,ON.of hp,cM,_,rfl,_,rfl,p,_,_,_,rfl,rfl,ON.of hp,bH,_,_,rfl,rfl,zk,d,_,rfl,dg,_,rfl,u,l,lf,_,fs,Sn,b,i,rfl,hs,el,hX.f,by rw[cY];exact h',?_⟩;have:=q H (OM.refl _);have e4:aC (c8 (dD ps ms fs (.pl b i)))=cp (fF ps fs b i):=rfl;rw[e4,gw]at this;rw[cY];exact this
  |mk b i=>
   obtain⟨p,u,rfl,hp,hs⟩:=hV;have h':cB ms Su fs b i:=by cases m<;>simpa[bj]using hE
   refine⟨_,rfl,p,_,_,_,rfl,rfl,ON.of hp,bH,rfl,_,rfl,bi zk ?_⟩;refine⟨_,rfl,p,_,_,_,rfl,rfl,ON.of hp,bH,rfl,_,rfl,bi zk ?_⟩;refine⟨_,rfl,p,_,_,_,rfl,rfl,ON.of hp,bH,rfl,_,rfl,bi zk ?_⟩;refine⟨_,rfl,p,_,_,_,rfl,rfl,ON.of hp,bH,rfl,_,rfl,bF (a_ rfl) ?_⟩;obtain⟨l,dg,el⟩:=iK hX.t (.inr rfl);refine⟨_,rfl,p,_,_,_,rfl,rfl,ON.of hp,cM,_,rfl,_,rfl,p,_,_,_,rfl,rfl,ON.of hp,bH,_,_,rfl,rfl,zk,d,_,rfl,dg,_,rfl,u,l,lf,_,fs,Su,b,i,rfl,hs,el,hX.f,by rw[dC];exact h',?_⟩;have:=q H (OM.refl _);have e4:aC (c8 (dD ps ms fs (.mk b i)))=cp (fF ms fs b i):=rfl;rw[e4,gw]at this;rw[dC];exact this
  |cell e=>
   obtain⟨p,u,rfl,hp,hu'⟩:=hV;cases m with
   |zero=>simp[bj]at hE
   |succ m=>
    have Wj:bj W ps ms fs m e:=by simpa[bj]using hE
    have hl1:=bO (fM hX.w24 (dc hX.G Wj));have YO:=cO (dc hX.G Wj);have h16:2^(m+2)<=32:=Ll (K0 zd (by lia:m+2<=5)) zd;refine⟨_,rfl,p,_,_,_,rfl,rfl,ON.of hp,bH,rfl,_,rfl,bi zk ?_⟩;refine⟨_,rfl,p,_,_,_,rfl,rfl,ON.of hp,bH,rfl,_,rfl,bi zk ?_⟩;refine⟨_,rfl,p,_,_,_,rfl,rfl,ON.of hp,bH,rfl,_,rfl,bi zk ?_⟩;refine⟨_,rfl,p,_,_,_,rfl,rfl,ON.of hp,bH,rfl,_,rfl,bi zk ?_⟩;refine⟨_,rfl,p,_,_,_,rfl,rfl,ON.of hp,bH,rfl,_,rfl,bF (a_ rfl) ?_⟩;refine⟨_,rfl,p,_,_,_,rfl,rfl,ON.of hp,cM,_,rfl,_,rfl,u,d,lf,W,ps,ms,fs,e,rfl,hu',hX,zo,Wj,fun H1 s1=>?_⟩;refine⟨_,_,d_ V.str CA.1,rfl,by rw[aN,aN];simp;lia,?_⟩;rw[bY];refine⟨_,_,rfl,d_ V.str CA.2,by rw[aN,aN];simp;lia,?_⟩;rw[bY];have:=q H1 s1;have e4:aC (c8 (dD ps ms fs (.cell e)))=[91,32]++aC (c8 (dD ps ms fs e))++[32,93]:=(nX _ (mz _)).symm;rw[e4]at this;exact this
  |two o x y=>
   obtain⟨p,u,t,rfl,hp,hux,X4⟩:=hV;cases m with
   |zero=>simp[bj]at hE
   |succ m=>
    have Wj:o∈O8/\bj W ps ms fs m x/\bj W ps ms fs m y:=by simpa[bj]using hE
    obtain⟨o1,o2,o3,o4,o5⟩:=CB o Wj.1;have ne:∀z:Str,o≠z->decide (V.str o=V.str z)=false:=fun z h=>b_ fun e=>h (V.str.inj e);have hl1:=bO (fM hX.w24 (dc hX.G Wj.2.1));have YO:=cO (dc hX.G Wj.2.1);have X':=bO (fM hX.w24 (dc hX.G Wj.2.2));have ZA:=cO (dc hX.G Wj.2.2);have h16:2^(m+2)<=32:=Ll (K0 zd (by lia:m+2<=5)) zd;have hlo:(cp o).length<=8:=(Py.sign (sg Wj.1)).le;refine⟨_,rfl,p,_,_,_,rfl,rfl,ON.of hp,bH,rfl,_,rfl,bi (ne _ o1) ?_⟩;refine⟨_,rfl,p,_,_,_,rfl,rfl,ON.of hp,bH,rfl,_,rfl,bi (ne _ o2) ?_⟩;refine⟨_,rfl,p,_,_,_,rfl,rfl,ON.of hp,bH,rfl,_,rfl,bi (ne _ o3) ?_⟩;refine⟨_,rfl,p,_,_,_,rfl,rfl,ON.of hp,bH,rfl,_,rfl,bi (ne _ o4) ?_⟩;refine⟨_,rfl,p,_,_,_,rfl,rfl,ON.of hp,bH,rfl,_,rfl,bi (ne _ o5) ?_⟩;refine⟨rfl,_,rfl,p,_,_,_,rfl,rfl,ON.of hp,cM,_,rfl,_,rfl,u,d,lf,W,ps,ms,fs,x,rfl,hux,hX,zo,Wj.2.1,fun H1 s1=>?_⟩;refine⟨_,rfl,p,_,_,_,rfl,rfl,ON.of (s1 _ _ hp),bH,?_⟩;refine⟨_,rfl,p,_,_,_,rfl,rfl,ON.of (s1 _ _ hp),jO,_,rfl,_,rfl,t,d,lf,W,ps,ms,fs,y,rfl,X4.kt (av s1),hX.same s1,zo,Wj.2.2,fun H2 s2=>?_⟩;refine⟨OT,fun l3 n3=>?_⟩;have s3:=aj (o:=.lst [.str "(",.str (S (aC (c8 (dD ps ms fs x)))),.str o,.str (S (aC (c8 (dD ps ms fs y)))),.str ")"]) n3;have e3:(aM H2 l3 (.lst [.str "(",.str (S (aC (c8 (dD ps ms fs x)))),.str o,.str (S (aC (c8 (dD ps ms fs y)))),.str ")"])) l3=some (.lst (dq [cp "(",aC (c8 (dD ps ms fs x)),cp o,aC (c8 (dD ps ms fs y)),cp ")"])):=by
     rw[ae];unfold dq;simp only[K2,LP,gw]
    refine⟨[32],l3,_,d_ V.str pN,rfl,OO.of e3,?_,?_⟩
    ·have c1:(cp "(").length=1:=by decide +kernel
     have c2:(cp ")").length=1:=by decide +kernel
     simp only[K2,LP,Mv,List.sum_nil,KC,K3];lia
    ·have:=q _ ((s1.trans s2).trans s3);have e4:aC (c8 (dD ps ms fs (.two o x y)))=TK.jn [32] [cp "(",aC (c8 (dD ps ms fs x)),cp o,aC (c8 (dD ps ms fs y)),cp ")"]:=(zU o _ _ (mz _) (mz _)).symm;rw[e4]at this;exact this
end
end L3
namespace L2
open PySem PySem.Spec PyProof.Rows
section
def zX:gz X (binaryOp .Mult) (fun x y H Q=>∃(l:Ut)(b:Bool),x=.str (S l)/\y=.int (if b=true then 1 else 0)/\l.length<=1000/\Q (.str (S (if b=true then l else []))) H):=by
 intro MC s σ H x y v u Q I rx ry h;obtain⟨l,b,rfl,rfl,hn,q⟩:=h;obtain⟨t,rfl⟩:=rx;obtain⟨t2,rfl⟩:=ry;have hl:(S l).length=l.length:=aN l;refine PySem.P.mul_str ?_ ?_ ?_ ?_
 ·cases b<;>simp
 ·intro _ _;rw[hl];cases b
  ·intro US;simp at*
  ·intro US;first|(simp at*;done)|(simp at*;lia)
 ·intro _ _;rw[hl];unfold Builtin.Str.tooLong;have sz:(10000:Nat)<=sizeLine:=by decide
  cases b<;>simp<;>lia
 ·cases b with
  |false=>
   rw[f_ (by simp)];refine⟨?_,⟨.str (S []),H,I.tok _,⟨_,rfl⟩,q⟩⟩;decide
  |true=>
   rw[e_ (by simp),f_ (by simp)];exact⟨.str (S l),H,I.tok _,⟨t,rfl⟩,q⟩
end
end L2
namespace L3
open PySem L2
def JI:Tt->Bool
 |.mk _ _=>true
 |_=>false
def xx(t:Tt):Str:=if JI t=true then Su else Sn
def FB(t:Tt):decide (V.str (Ho t)=V.str Ta)=uD t:=by
 cases t with
 |top b n=>exact a_ rfl
 |pl b n=>exact b_ fun e=>absurd (V.str.inj e) (by show(Sn:Str)≠Ta;decide +kernel)
 |mk b n=>exact b_ fun e=>absurd (V.str.inj e) (by show(Su:Str)≠Ta;decide +kernel)
def wn(t:Tt):decide (V.str (Ho t)=V.str Su)=JI t:=by
 cases t with
 |top b n=>exact b_ fun e=>absurd (V.str.inj e) (by show(Ta:Str)≠Su;decide +kernel)
 |pl b n=>exact b_ fun e=>absurd (V.str.inj e) (by show(Sn:Str)≠Su;decide +kernel)
 |mk b n=>exact a_ rfl
def DQ(t:Tt):oz ([V.str Sn,.str Su]:Uv) (if JI t=true then 1 else 0)=some (.str (xx t)):=by
 cases t<;>first|exact bH|exact cM
def zY(t:Tt):xx t=Sn\/xx t=Su:=by cases t<;>first|exact .inl rfl|exact .inr rfl
def HL(h:Cr ps ms fs t):cB (gj ps ms (xx t)) (xx t) fs (jR t).1 (jR t).2/\fF (gj ps ms (xx t)) fs (jR t).1 (jR t).2=qH ps ms fs t:=by
 cases t with
 |top b n=>exact⟨by show cB (gj ps ms Sn) _ fs b n;rw[cY];exact h,by show fF (gj ps ms Sn) fs b n=_;rw[cY];rfl⟩
 |pl b n=>exact⟨by show cB (gj ps ms Sn) _ fs b n;rw[cY];exact h,by show fF (gj ps ms Sn) fs b n=_;rw[cY];rfl⟩
 |mk b n=>exact⟨by show cB (gj ps ms Su) _ fs b n;rw[dC];exact h,by show fF (gj ps ms Su) fs b n=_;rw[dC];rfl⟩
def zZ(t:Bool):Ut:=if t=true then [116,111,112,32]else []
def sj(t:Bool)(z:Str):zZ t++cp z=aC (dI t z):=by
 cases t with
 |true=>
  show [116,111,112,32]++cp z=aC [(Ta:Str),z];rw[bK (by simp),cZ];have:cp (Ta:Str)=[116,111,112]:=by decide +kernel
  rw[this];rfl
 |false=>rfl
def z4(t:Bool)(z:Str):dI t z≠[]:=by cases t<;>simp[dI]
def mB(b:Bd):dk b≠[]:=by cases b<;>simp[dk]
def z9(t:Bool)(z:Str)(y n:Bd):[123,32,105,102,32]++aC (dI t z)++[32]++aC (dk y)++[32,101,108,115,101,32]++aC (dk n)++[32,125]=aC (dk (.ite t z y n)):=by
 have e:dk (.ite t z y n)=("{":Str)::(Ub:Str)::(dI t z++(dk y++(TD:Str)::(dk n++[("}":Str)]))):=rfl;rw[e,bK (by simp),bK (by simp[mB]),eM (z4 t z) (by simp[mB]),eM (mB y) (by simp),bK (by simp),eM (mB n) (by simp),cZ];have e1:cp ("{":Str)=[123]:=by decide +kernel
 have e2:cp (Ub:Str)=[105,102]:=by decide +kernel
 have e3:cp (TD:Str)=[101,108,115,101]:=by decide +kernel
 have e4:cp ("}":Str)=[125]:=by decide +kernel
 rw[e1,e2,e3,e4];simp
def FC(g:Gs):vT g≠[]:=by cases g<;>simp[vT]
def mC(g:Gs):[115,101,116,32]++aC (vT g)++[32,61,32]++aC (c8 (uj g))++[32,59]=aC (("set":Str)::i4 g):=by
 rw[uk,bK (by simp),eM (FC g) (by simp),bK (by simp),eM (mz _) (by simp),cZ];have e1:cp ("set":Str)=[115,101,116]:=by decide +kernel
 have e2:cp ("=":Str)=[61]:=by decide +kernel
 have e3:cp (";":Str)=[59]:=by decide +kernel
 rw[e1,e2,e3];simp
def nY:∀s:List Gs,bZ s=(s.map fun g=>("set":Str)::i4 g).flatten
 |[]=>rfl
 |g::r=>by rw[K2,LU,<-nY r];rfl
def FD(e:En):gC e≠[]:=by cases e<;>simp[gC]
def fV(s:List Gs):List (Ut):=cp "{"::s.map fun g=>aC (("set":Str)::i4 g)
def xy(s:List Gs)(e:En):TK.jn [32] (fV s++[aC (gC e),cp "}"])=aC (dk (.leaf s e)):=by
 have h:=gk ([("{":Str)]::(s.map fun g=>("set":Str)::i4 g)++[gC e,[("}":Str)]]) (by
  intro g hg;rcases La.mp hg with hg|hg
  ·rcases KH.mp hg with rfl|hg
   ·simp
   ·obtain⟨g0,_,rfl⟩:=K4.mp hg;simp
  ·simp only[KH,KY,j_]at hg;rcases hg with rfl|rfl
   ·exact FD e
   ·simp)
 have e1:([("{":Str)]::(s.map fun g=>("set":Str)::i4 g)++[gC e,[("}":Str)]]).flatten=dk (.leaf s e):=by
  rw[List.flatten_append,LU,<-nY];simp[dk]
 rw[e1]at h;rw[<-h];unfold fV;simp only[KJ,K2,LP,Lz];rfl
def Kr:Ee->Str
 |.w0 s=>s
 |.fault _=>Sy
 |.go s _=>s
def Ks(fs:Uu):Ee->Str
 |.w0 s=>s
 |.fault _=>Sy
 |.go s j=>S (aC [s,zO fs j])
inductive Aa(m:Nat)(vs:Uv)(H:Hp)(Q:VK):Prop
 |mk(v d lf W ps ms fs dd:_)(m0:Nat):vs=[v,.ref d,.ref lf]->Qw H dd v->Tx H d lf W ps ms fs->m0<=3->m<=3->fE W ps ms fs m0 m dd->(∀H',OM H H'->Q (.str (S (aC (dk (jf ps ms fs dd))))) H')->Aa m vs H Q
def wo :Nat->Sp
 |0=>jN
 |m+1=>fun vs H Q _=>Aa m vs H Q
def kI(h:bj W ps ms fs m e)(hn:m<=n):bj W ps ms fs n e:=by
 induction hn with
 |refl=>exact h
 |step _ ih=>exact kE ih
def jT(gs:List Gs)(g:Gs):fV (gs++[g])=fV gs++[aC (("set":Str)::i4 g)]:=by unfold fV;simp
def gR(gs:List Gs):(fV gs).length=gs.length+1:=by unfold fV;simp
def fO:(("{ if ":Str)=S [123,32,105,102,32])/\((" else ":Str)=S [32,101,108,115,101,32])/\((" }":Str)=S [32,125])/\(("top ":Str)=S [116,111,112,32])/\(("set ":Str)=S [115,101,116,32])/\((" = ":Str)=S [32,61,32])/\((" ;":Str)=S [32,59]):=by decide +kernel
section
def Pr:az [Sq,Si,Sk,Tw,"_law_word","_law_yes",SD,"_law_one","_law_aim","_law_end_here"] [Sq,Si,Sk] (ak jI):=cv zk
inductive uJ(dd:Dd)(v:V)(d:Ul)(lf:Ul)(fs:Uu)(H:Hp)(ps:Us)(ms:Us)(σ:St)(H':Hp):Prop
 |mk(lw:Ul)(ss:List Sd)(e:Ee)(v7 v8:Option V):dd=.leaf ss e->σ=[some v,some (.ref d),some (.ref lf),none,none,none,some (.ref lw),v7,v8,some (.str (Ks fs e))]->OM H H'->H' lw=some (.lst (dq (fV (ss.map (dE ps ms fs)))))->uJ dd v d lf fs H ps ms σ H'
inductive Ab(dd:Dd)(v:V)(d:Ul)(lf:Ul)(fs:Uu)(H:Hp)(ps:Us)(ms:Us)(σ:St)(H':Hp):Prop
 |mk(lw:Ul)(ss:List Sd)(e:Ee)(v7 v8:Option V):dd=.leaf ss e->σ=[some v,some (.ref d),some (.ref lf),none,none,none,some (.ref lw),v7,v8,some (.str (S (aC (gC (gB fs e)))))]->OM H H'->H' lw=some (.lst (dq (fV (ss.map (dE ps ms fs)))))->Ab dd v d lf fs H ps ms σ H'
def pW(F:O0 K "_law_deed_text" "_law_deed_text" jI f fd)(B:Bl mg)(ST:Fn P w K mg base "_law_sel_text" 1 [SM,SZ,Sk] wl)(EX:Fn P w K mg base "_law_expr_text" n [Ud,Si,Sk] (wm 4))(DT:Fn P w K mg base "_law_deed_text" n [Sq,Si,Sk] (wo m))(hn:1<=n):OQ P w K mg base bQ (n+1) f fd [Sq,Si,Sk] (wo (m+1)):=by
 have ZZ:=Pr
 walk_at "o"
 ·obtain⟨v,d,lf,W,ps,ms,fs,dd,m0,rfl,hV,hX,Xb,X_,hD,q⟩:=h;have hu:=eo hr;have ME:OU 1 _:=hr.mono zo;have sz:(200000:Nat)<=sizeLine:=by decide
  have hbo:=nW hX.G Xb hD (KO _);have Yd:=i8 hbo;have hln:=bO (nV hX.w24 hbo);have h8:2^m<=8:=Ll (K0 zd X_) zd;have joinX:True:=trivial;refine⟨_,ac (aT (aq aX (aB aJ (pv 0) af) ai)
    (ac (bL (i:=3) Pr.nd (aB aJ (pv 0) af))
    (ac (bL (i:=4) Pr.nd (aH zX ai (aY eZ (by rfl) B.int LC (aa (cb aX (aB aJ (pv 3) af) ai) ab))))
    (ac (bL (i:=4) Pr.nd (aH aR (pv 4) (ax ST ME rfl (aa (aB aJ (pv 3) af) (aa (bx hu (pv 1) (aH aR (aB aU (aP (aa ai (aa ai ab))) (aY eZ (by rfl) B.int LC (aa (cb aX (aB aJ (pv 3) af) ai) ab))) ai)) (aa (pv 2) ab))))))
    (ac (bL (i:=5) Pr.nd (ax DT hr rfl (aa (aB aJ (pv 0) af) (aa (pv 1) (aa (pv 2) ab)))))
    (ag (aw (aH aR (aH aR (aH aR (aH aR (aH aR (aH aR ai (pv 4)) ai) (pv 5)) ai) (ax DT hr rfl (aa (aB aJ (pv 0) af) (aa (pv 1) (aa (pv 2) ab))))) ai))))))) aG)
   (ac (bL (i:=6) Pr.nd (aP (aa ai ab)))
   (ac (cc g_ rfl (kN (aB aJ (pv 0) af)) (cq (i:=7) Pr.nd)
    (ac (aT (aq aX (aB aJ (pv 7) af) ai) (ag (bL (i:=8) Pr.nd (aH aR (aH aR ai (ax EX hr rfl (aa (aB aJ (pv 7) af) (aa (pv 1) (aa (pv 2) ab))))) ai)))
      (ag (bL (i:=8) Pr.nd (ax ST ME rfl (aa (aB aJ (pv 7) af) (aa (bx hu (pv 1) (aH aR (aB aJ (pv 7) af) ai)) (aa (pv 2) ab)))))))
    (ag (aQ (ci KU KS KR bv (pv 6) (aa (aH aR (aH aR (aH aR (aH aR ai (pv 8)) ai) (ax EX hr rfl (aa (aB aJ (pv 7) af) (aa (pv 1) (aa (pv 2) ab))))) ai) ab))))))
   (ac (bL (i:=9) Pr.nd (aB aJ (aB aJ (pv 0) af) af))
   (bN (uJ dd v d lf fs H ps ms) (aT (PW.pt (fe (aq aX (pv 9) ai) (dM (aq aX (pv 9) ai)))) (ag (bL (i:=9) Pr.nd (aH aR (aH aR (pv 9) ai) (aB aJ (aB aU (pv 2) (aB aJ (aB aJ (pv 0) af) af)) af)))) aG)
   (bN (Ab dd v d lf fs H ps ms) (aT (aq aX (pv 9) ai) (ag (bL (i:=9) Pr.nd (aH aR (aH aR (pv 9) ai) (aB aJ (aB aJ (pv 0) af) af)))) aG)
   (ag (aw (ci Lr Lw Lv eX ai (aa (aH dA (pv 6) (aP (aa (pv 9) (aa ai ab)))) ab))))))))),?_⟩
  cases dd with
  |ite t y z=>
   cases m with
   |zero=>simp[fE]at hD
   |succ m=>
    obtain⟨X5,hyo,hzo⟩:=hD;obtain⟨p,u,a,bb,rfl,hp,⟨pt,ut,rfl,VF,UO⟩,ha,hb⟩:=hV;obtain⟨UJ,hsn⟩:=HL X5;have by1:=nW hX.G Xb hyo (KO _);have bz1:=nW hX.G Xb hzo (KO _);have ly:=bO (nV hX.w24 by1);have lz:=bO (nV hX.w24 bz1);have ly2:=i8 by1;have lz2:=i8 bz1;have h4:2^m<=8:=Ll (K0 zd (by lia:m<=3)) zd;have hnz:cP (qH ps ms fs t):=by
     cases t with
     |top b n=>exact cK hX.G.p hX.G.f X5
     |pl b n=>exact cK hX.G.p hX.G.f X5
     |mk b n=>exact cK hX.G.m hX.G.f X5
    have lzn:=hnz.1.len;have ltp:(zZ (uD t)).length<=4:=by cases uD t<;>decide
    refine⟨_,rfl,p,_,_,_,rfl,rfl,ON.of hp,bH,rfl,_,rfl,bF (a_ rfl) ?_⟩;refine⟨_,rfl,p,_,_,_,rfl,rfl,ON.of hp,cM,?_⟩;refine⟨_,rfl,pt,_,_,_,rfl,rfl,ON.of VF,bH,rfl,.inr ⟨_,rfl,?_⟩⟩;refine⟨[116,111,112,32],uD t,d_ V.str fO.2.2.2.1,d_ (fun b:Bool=>V.int (if b=true then 1 else 0)) (FB t),zd,?_⟩;refine⟨_,rfl,_,rfl,pt,_,_,_,rfl,rfl,ON.of VF,cM,_,rfl,OT,fun ll nll=>?_⟩;generalize zz:aM H ll _=H1;have⟨s1,e1⟩:=nw nll zz;clear zz;obtain⟨l,dg,el⟩:=iK (hX.t.same s1) (zY t);refine⟨_,rfl,pt,_,_,_,rfl,rfl,ON.of (s1 _ _ VF),bH,rfl,.inr ⟨_,rfl,ll,_,_,_,rfl,rfl,OO.of e1,by rw[wn];exact DQ t,?_⟩⟩;have Yo:(xx t).length+("s":Str).length<=sizeLine:=by rcases zY t with e|e<;>rw[e]<;>decide +kernel
    refine⟨_,_,rfl,rfl,Yo,d,_,rfl,dg,_,rfl,ut,l,lf,_,fs,xx t,_,_,rfl,UO.kt (av s1),el,hX.f.same s1,UJ,?_⟩;rw[hsn];have ew:S (zZ (uD t))++qH ps ms fs t=S (aC (dI (uD t) (qH ps ms fs t))):=by
     have:qH ps ms fs t=S (cp (qH ps ms fs t)):=(gw _).symm;rw[this,bY,sj,gw]
    have zl:(qH ps ms fs t).length=(cp (qH ps ms fs t)).length:=by show(qH ps ms fs t).cps.size=_;unfold cp;simp
    refine⟨_,_,rfl,rfl,?_,?_⟩
    ·have:(S (zZ (uD t))).length<=4:=by rw[aN];exact ltp
     show(S (zZ (uD t))).length+(qH ps ms fs t).length<=sizeLine;lia
    have lt2:(aC (dI (uD t) (qH ps ms fs t))).length<=12:=by
     rw[<-sj,Kz];lia
    have ew':V.str (S (if uD t=true then [116,111,112,32]else [])++qH ps ms fs t)=V.str (S (aC (dI (uD t) (qH ps ms fs t)))):=d_ V.str ew;rw[ew'];generalize MP:aC (dI (uD t) (qH ps ms fs t))=lt at*;refine⟨_,rfl,p,_,_,_,rfl,rfl,ON.of (s1 _ _ hp),jO,_,rfl,_,rfl,a,d,lf,W,ps,ms,fs,y,m0,rfl,ha.kt (av s1),hX.same s1,Xb,zo,hyo,fun H2 s2=>?_⟩;have Vp:=s1.trans s2;refine⟨_,rfl,_,_,d_ V.str fO.1,rfl,by rw[aN,aN];simp;lia,?_⟩;rw[bY];refine⟨_,_,rfl,d_ V.str pN,by rw[aN,aN];simp;lia,?_⟩;rw[bY];refine⟨_,rfl,_,_,rfl,rfl,by rw[aN,aN];simp;lia,?_⟩;rw[bY];refine⟨_,_,rfl,d_ V.str fO.2.1,by rw[aN,aN];simp;lia,?_⟩;rw[bY];refine⟨_,rfl,p,_,_,_,rfl,rfl,ON.of (Vp _ _ hp),Hm,_,rfl,_,rfl,bb,d,lf,W,ps,ms,fs,z,m0,rfl,hb.kt (av Vp),hX.same Vp,Xb,zo,hzo,fun H3 s3=>?_⟩;refine⟨_,_,rfl,rfl,by rw[aN,aN];simp;lia,?_⟩;rw[bY];refine⟨_,_,rfl,d_ V.str fO.2.2.1,by rw[aN,aN];simp;lia,?_⟩;rw[bY];have:=q H3 (Vp.trans s3);have e4:aC (dk (jf ps ms fs (.ite t y z)))=[123,32,105,102,32]++lt++[32]++aC (dk (jf ps ms fs y))++[32,101,108,115,101,32]++aC (dk (jf ps ms fs z))++[32,125]:=by
     rw[<-MP];exact(z9 _ _ _ _).symm
    rw[e4]at this;exact this
  |leaf ss e=>
   obtain⟨p,qs,us,u,rfl,hp,hq,ML,Zt⟩:=hV;have h':ss.length<=4/\(ss.filter Sd.isCell).length<=1/\(∀g∈ss,gy W ps ms fs m0 g)/\rZ fs e:=by cases m<;>exact hD
   have hen:=DP hX.G.f h'.2.2.2;have W5:=ML.length;refine⟨_,rfl,p,_,_,_,rfl,rfl,ON.of hp,bH,rfl,_,rfl,bi zk ?_⟩;refine⟨OT,fun lw UT=>?_⟩;have s1:=aj (o:=.lst [V.str "{"]) UT;have e1:(aM H lw (.lst [V.str "{"])) lw=some (.lst (dq (fV []))):=by
    rw[ae];unfold dq fV;simp only[K2,LP,gw]
   generalize aM H lw (.lst [V.str "{"])=H1 at*;refine⟨_,rfl,p,_,_,_,rfl,rfl,ON.of (s1 _ _ hp),cM,qs,rfl,⟨_,ON.of (s1 _ _ hq)⟩,?_⟩;refine oo (K:=K) (a:=qs) (xs:=us) (fun i σ H'=>∃v7 v8:Option V,σ=[some (.ref p),some (.ref d),some (.ref lf),none,none,none,some (.ref lw),v7,v8,none]/\OM H H'/\H' lw=some (.lst (dq (fV ((ss.take i).map (dE ps ms fs)))))) ⟨_,_,rfl,s1,e1⟩ (fun i σ H' _⟨_,_,_,s',_⟩=>ON.of (s' _ _ hq)) ?_ ?_
   ·rintro i x σ H2 hx ⟨v7,v8,rfl,s2,e2⟩;obtain⟨g,hg,XD⟩:=dB ML hx;have ZD:=(Kx.mp hx).1;have Wi:=h'.2.2.1 g (KQ hg);cases g with
    |cell a ee=>
     obtain⟨p',uu,tt,rfl,Ux,Zs,W6⟩:=XD;have ZM:bj W ps ms fs 3 a:=kI Wi.1 zo;have Wt:bj W ps ms fs 3 ee:=kI Wi.2 Xb;have la:=bO (fM hX.w24 (dc hX.G ZM));have la2:=cO (dc hX.G ZM);have le:=bO (fM hX.w24 (dc hX.G Wt));have le2:=cO (dc hX.G Wt);have h32:(2:Nat)^(3+2)=32:=by decide
     refine⟨_,rfl,p',_,_,_,rfl,rfl,ON.of (s2 _ _ Ux),bH,rfl,_,rfl,bF (a_ rfl) ?_⟩;refine⟨_,rfl,p',_,_,_,rfl,rfl,ON.of (s2 _ _ Ux),cM,_,rfl,_,rfl,uu,d,lf,W,ps,ms,fs,a,rfl,Zs.kt (av s2),hX.same s2,zd,ZM,fun H3 s3=>?_⟩;refine⟨_,_,d_ V.str CA.1,rfl,by rw[aN,aN];simp;lia,?_⟩;rw[bY];refine⟨_,_,rfl,d_ V.str CA.2,by rw[aN,aN];simp;lia,?_⟩;rw[bY];have eh:[91,32]++aC (c8 (dD ps ms fs a))++[32,93]=aC (vT (dE ps ms fs (.cell a ee))):=nX _ (mz _);have lh:(aC (vT (dE ps ms fs (.cell a ee)))).length<=400:=by
      rw[<-eh,Kz,Kz];simp;lia
     rw[eh];refine⟨_,rfl,.inl ⟨rfl,_,OO.of (s3 _ _ e2)⟩,?_⟩;refine⟨_,rfl,_,_,d_ V.str fO.2.2.2.2.1,rfl,by rw[aN,aN];simp;lia,?_⟩;rw[bY];refine⟨_,_,rfl,d_ V.str fO.2.2.2.2.2.1,by rw[aN,aN];simp;lia,?_⟩;rw[bY];refine⟨_,rfl,p',_,_,_,rfl,rfl,ON.of ((s2.trans s3) _ _ Ux),jO,_,rfl,_,rfl,tt,d,lf,W,ps,ms,fs,ee,rfl,W6.kt (av (s2.trans s3)),hX.same (s2.trans s3),zd,Wt,fun H4 s4=>?_⟩;refine⟨_,_,rfl,rfl,by rw[aN,aN];simp;lia,?_⟩;rw[bY];refine⟨_,_,rfl,d_ V.str fO.2.2.2.2.2.2,by rw[aN,aN];simp;lia,?_⟩;rw[bY];refine⟨lw,_,_,rfl,rfl,(s3.trans s4) _ _ e2,by rw[da,gR,Ky,KG];lia,_,_,rfl,cj UT ((s2.trans s3).trans s4),?_⟩;rw[ae]
     congr 2
     rw[Lj,hg];show _=dq (fV (List.map (dE ps ms fs) (ss.take i++[.cell a ee])));rw[KJ,K2,LP,jT,<-mC];unfold dq;rw[KJ];rfl
    |pl b n ee=>
     obtain⟨p',uu,tt,rfl,Ux,Zs,W6⟩:=XD;have Wt:bj W ps ms fs 3 ee:=kI Wi.2 Xb;have le:=bO (fM hX.w24 (dc hX.G Wt));have le2:=cO (dc hX.G Wt);have h32:(2:Nat)^(3+2)=32:=by decide
     obtain⟨l,dg,el⟩:=iK (hX.t.same s2) (st:=Sn) (by first|exact .inl rfl|exact .inr rfl);refine⟨_,rfl,p',_,_,_,rfl,rfl,ON.of (s2 _ _ Ux),bH,rfl,_,rfl,bi zk ?_⟩;refine⟨_,rfl,p',_,_,_,rfl,rfl,ON.of (s2 _ _ Ux),cM,_,rfl,_,rfl,p',_,_,_,rfl,rfl,ON.of (s2 _ _ Ux),bH,_,_,rfl,rfl,zk,d,_,rfl,dg,_,rfl,uu,l,lf,_,fs,Sn,b,n,rfl,Zs.kt (av s2),el,hX.f.same s2,by rw[cY];exact Wi.1,?_⟩;rw[cY];have nm:=(cK (st:=Sn) hX.G.p hX.G.f Wi.1).1.len;have lh:(aC (vT (dE ps ms fs (.pl b n ee)))).length<=400:=by
      show(cp (fF _ fs b n)).length<=400;lia
     have s3:OM H2 H2:=OM.refl _;refine⟨_,rfl,.inl ⟨rfl,_,OO.of (s3 _ _ e2)⟩,?_⟩;refine⟨_,rfl,_,_,d_ V.str fO.2.2.2.2.1,d_ V.str (gw _).symm,by rw[aN,aN];simp;lia,?_⟩;rw[bY];refine⟨_,_,rfl,d_ V.str fO.2.2.2.2.2.1,by rw[aN,aN];simp;lia,?_⟩;rw[bY];refine⟨_,rfl,p',_,_,_,rfl,rfl,ON.of ((s2.trans s3) _ _ Ux),jO,_,rfl,_,rfl,tt,d,lf,W,ps,ms,fs,ee,rfl,W6.kt (av (s2.trans s3)),hX.same (s2.trans s3),zd,Wt,fun H4 s4=>?_⟩;refine⟨_,_,rfl,rfl,by rw[aN,aN];simp;lia,?_⟩;rw[bY];refine⟨_,_,rfl,d_ V.str fO.2.2.2.2.2.2,by rw[aN,aN];simp;lia,?_⟩;rw[bY];refine⟨lw,_,_,rfl,rfl,(s3.trans s4) _ _ e2,by rw[da,gR,Ky,KG];lia,_,_,rfl,cj UT ((s2.trans s3).trans s4),?_⟩;rw[ae]
     congr 2
     rw[Lj,hg];show _=dq (fV (List.map (dE ps ms fs) (ss.take i++[.pl b n ee])));rw[KJ,K2,LP,jT,<-mC];unfold dq;rw[KJ];rfl
    |mk b n ee=>
     obtain⟨p',uu,tt,rfl,Ux,Zs,W6⟩:=XD;have Wt:bj W ps ms fs 3 ee:=kI Wi.2 Xb;have le:=bO (fM hX.w24 (dc hX.G Wt));have le2:=cO (dc hX.G Wt);have h32:(2:Nat)^(3+2)=32:=by decide
     obtain⟨l,dg,el⟩:=iK (hX.t.same s2) (st:=Su) (by first|exact .inl rfl|exact .inr rfl);refine⟨_,rfl,p',_,_,_,rfl,rfl,ON.of (s2 _ _ Ux),bH,rfl,_,rfl,bi zk ?_⟩;refine⟨_,rfl,p',_,_,_,rfl,rfl,ON.of (s2 _ _ Ux),cM,_,rfl,_,rfl,p',_,_,_,rfl,rfl,ON.of (s2 _ _ Ux),bH,_,_,rfl,rfl,zk,d,_,rfl,dg,_,rfl,uu,l,lf,_,fs,Su,b,n,rfl,Zs.kt (av s2),el,hX.f.same s2,by rw[dC];exact Wi.1,?_⟩;rw[dC];have nm:=(cK (st:=Su) hX.G.m hX.G.f Wi.1).1.len;have lh:(aC (vT (dE ps ms fs (.mk b n ee)))).length<=400:=by
      show(cp (fF _ fs b n)).length<=400;lia
     have s3:OM H2 H2:=OM.refl _;refine⟨_,rfl,.inl ⟨rfl,_,OO.of (s3 _ _ e2)⟩,?_⟩;refine⟨_,rfl,_,_,d_ V.str fO.2.2.2.2.1,d_ V.str (gw _).symm,by rw[aN,aN];simp;lia,?_⟩;rw[bY];refine⟨_,_,rfl,d_ V.str fO.2.2.2.2.2.1,by rw[aN,aN];simp;lia,?_⟩;rw[bY];refine⟨_,rfl,p',_,_,_,rfl,rfl,ON.of ((s2.trans s3) _ _ Ux),jO,_,rfl,_,rfl,tt,d,lf,W,ps,ms,fs,ee,rfl,W6.kt (av (s2.trans s3)),hX.same (s2.trans s3),zd,Wt,fun H4 s4=>?_⟩;refine⟨_,_,rfl,rfl,by rw[aN,aN];simp;lia,?_⟩;rw[bY];refine⟨_,_,rfl,d_ V.str fO.2.2.2.2.2.2,by rw[aN,aN];simp;lia,?_⟩;rw[bY];refine⟨lw,_,_,rfl,rfl,(s3.trans s4) _ _ e2,by rw[da,gR,Ky,KG];lia,_,_,rfl,cj UT ((s2.trans s3).trans s4),?_⟩;rw[ae]
     congr 2
     rw[Lj,hg];show _=dq (fV (List.map (dE ps ms fs) (ss.take i++[.mk b n ee])));rw[KJ,K2,LP,jT,<-mC];unfold dq;rw[KJ];rfl
   ·rintro σ H2 ⟨v7,v8,rfl,s2,e2⟩;rw[W5,K7]at e2;have hE:∃pe r,u=.ref pe/\H pe=some (.tup (.str (Kr e)::r)):=by
     cases e with
     |w0 s=>obtain⟨pe,a,b⟩:=Zt;exact⟨pe,_,a,b⟩
     |fault z=>obtain⟨pe,a,b⟩:=Zt;exact⟨pe,_,a,b⟩
     |go s j=>obtain⟨pe,a,b⟩:=Zt;exact⟨pe,_,a,b⟩
    obtain⟨pe,re,rfl,hpe⟩:=hE;refine⟨_,rfl,p,_,_,_,rfl,rfl,ON.of (s2 _ _ hp),jO,pe,_,_,_,rfl,rfl,ON.of (s2 _ _ hpe),bH,?_⟩;refine⟨?_,?_⟩
    ·rintro σ H3 ⟨lw,ss',e',v7,v8,ed,rfl,s3,e3⟩;cases ed;refine⟨?_,?_⟩
     ·rintro σ H4 ⟨lw,ss',e',v7,v8,ed,rfl,s4,e4⟩;cases ed;have lnE:=bO (DL hen);have lnE2:=wa (gB fs e);refine⟨rfl,_,rfl,_,rfl,OT,fun l5 n5=>?_⟩;have s5:=aj (o:=.lst [.str (S (aC (gC (gB fs e)))),.str "}"]) n5;have e5:(aM H4 l5 (.lst [.str (S (aC (gC (gB fs e)))),.str "}"])) l5=some (.lst (dq [aC (gC (gB fs e)),cp "}"])):=by
       rw[ae];unfold dq;simp only[K2,LP,gw]
      generalize aM H4 l5 (.lst [V.str (S (aC (gC (gB fs e)))),.str "}"])=H5 at*;refine⟨lw,l5,_,_,rfl,rfl,s5 _ _ e4,e5,by rw[da,da,gR,Ky];simp;lia,fun l6 n6=>?_⟩;have eT:dq (fV (ss.map (dE ps ms fs)))++dq [aC (gC (gB fs e)),cp "}"]=dq (fV (ss.map (dE ps ms fs))++[aC (gC (gB fs e)),cp "}"]):=by unfold dq;rw[KJ]
      rw[eT];have s6:=aj (o:=.lst (dq (fV (ss.map (dE ps ms fs))++[aC (gC (gB fs e)),cp "}"]))) n6;refine⟨[32],l6,_,d_ V.str pN,rfl,OO.of ae,?_,?_⟩
      ·have hb:∀t∈fV (ss.map (dE ps ms fs))++[aC (gC (gB fs e)),cp "}"],t.length<=1000:=by
        intro t ht;rcases La.mp ht with ht|ht
        ·rcases KH.mp ht with rfl|ht
         ·decide +kernel
         ·obtain⟨g0,XE,rfl⟩:=K4.mp ht;obtain⟨g1,ZJ,rfl⟩:=K4.mp XE;have hgk:=DM hX.G Xb (h'.2.2.1 g1 ZJ);have h1:=v0 hgk;have h2:=bO (zs:=("set":Str)::i4 (dE ps ms fs g1)) (by
           intro z hz;rcases KH.mp hz with rfl|hz
           ·exact .word zk
           ·exact DK hX.w24 hgk z hz)
          rw[KC]at h2;lia
        ·simp only[KH,KY,j_]at ht;rcases ht with rfl|rfl
         ·lia
         ·decide +kernel
       have h1:=iJ 1000 _ hb;have h2:(fV (ss.map (dE ps ms fs))++[aC (gC (gB fs e)),cp "}"]).length<=7:=by
        rw[Kz,gR,Ky];simp;lia
       simp only[KC,K3];lia
      ·have:=q _ ((s4.trans s5).trans s6);have e7:aC (dk (jf ps ms fs (.leaf ss e)))=TK.jn [32] (fV (ss.map (dE ps ms fs))++[aC (gC (gB fs e)),cp "}"]):=(xy _ _).symm;rw[e7]at this;exact this
     ·cases e with
      |w0 s=>
       have hs:s∈([S4,Tf,Tg]:Us):=h'.2.2.2;have MM:s≠Sy:=by
        have:∀z∈([S4,Tf,Tg]:Us),z≠Sy:=by decide +kernel
        exact this s hs
       refine⟨_,rfl,rfl,_,rfl,bi (b_ fun e=>MM (V.str.inj e)) ⟨lw,ss,.w0 s,v7,v8,rfl,?_,s3,e3⟩⟩;exact d_ (fun z=>[some (V.ref p),some (.ref d),some (.ref lf),none,none,none,some (.ref lw),v7,v8,some (.str z)]) (gw s).symm
      |fault z=>
       obtain⟨pe',ee,U8⟩:=Zt;cases ee;have nz:cP z:=h'.2.2.2;have ln:=nz.1.len;have zl:z.length=(cp z).length:=by show z.cps.size=_;unfold cp;simp
       refine⟨_,rfl,rfl,_,rfl,bF (a_ rfl) ?_⟩;refine⟨_,rfl,_,_,rfl,rfl,by show(Sy:Str).length+(" ":Str).length<=sizeLine;decide +kernel,_,rfl,p,_,_,_,rfl,rfl,ON.of (s3 _ _ hp),jO,pe,_,_,_,rfl,rfl,ON.of (s3 _ _ U8),cM,_,_,rfl,rfl,?_,?_⟩
       ·have:((Sy:Str)++(" ":Str)).length=6:=by decide +kernel
        show((Sy:Str)++(" ":Str)).length+z.length<=sizeLine;lia
       ·refine⟨lw,ss,.fault z,v7,v8,rfl,?_,s3,e3⟩;refine d_ (fun z=>[some (V.ref p),some (.ref d),some (.ref lf),none,none,none,some (.ref lw),v7,v8,some (.str z)]) ?_;show(Sy:Str)++(" ":Str)++z=S (aC [(Sy:Str),z]);rw[bK (by simp),cZ];have e8:(Sy:Str)++(" ":Str)=S (cp Sy++[32]):=by decide +kernel
        rw[e8];have e9:z=S (cp z):=(gw z).symm;rw[e9,bY,gx]
        congr 1
        try simp
      |go s j=>
       have hs:s∈([Ts,SH]:Us):=h'.2.2.2.1;have MM:S (aC [s,zO fs j])≠Sy:=by
        intro e;have e2:=d_ cp e;rw[gx,bK (by simp),cZ]at e2;have:∀z∈([Ts,SH]:Us),(cp z)[0]?≠some 102/\cp z≠[]:=by decide +kernel
        obtain⟨h1,h2⟩:=this s hs;have e3:=d_ (fun l:Ut=>l[0]?) e2;have e4:(cp (Sy:Str))[0]?=some 102:=by decide +kernel
        have e5:(cp s++(32::cp (zO fs j)))[0]?=(cp s)[0]?:=by
         cases hc:cp s with
         |nil=>exact absurd hc h2
         |cons a r=>rfl
        exact h1 (by rw[<-e5];exact e3.trans e4)
       exact⟨_,rfl,rfl,_,rfl,bi (b_ fun e=>MM (V.str.inj e)) ⟨lw,ss,.go s j,v7,v8,rfl,rfl,s3,e3⟩⟩
    ·cases e with
     |w0 s=>
      have hs:s∈([S4,Tf,Tg]:Us):=h'.2.2.2;have:∀z∈([S4,Tf,Tg]:Us),z≠Ts/\z≠SH:=by decide +kernel
      obtain⟨h1,h2⟩:=this s hs;refine⟨_,rfl,rfl,_,rfl,bi (b_ fun e=>h1 (V.str.inj e)) ?_⟩;refine⟨_,rfl,rfl,_,rfl,bi (b_ fun e=>h2 (V.str.inj e)) ⟨lw,ss,.w0 s,v7,v8,rfl,rfl,s2,e2⟩⟩
     |fault z=>
      refine⟨_,rfl,rfl,_,rfl,bi (by show decide (V.str Sy=V.str Ts)=false;decide +kernel) ?_⟩;refine⟨_,rfl,rfl,_,rfl,bi (by show decide (V.str Sy=V.str SH)=false;decide +kernel) ⟨lw,ss,.fault z,v7,v8,rfl,rfl,s2,e2⟩⟩
     |go s j=>
      obtain⟨pe',ee,U8⟩:=Zt;cases ee;obtain⟨hs,z,hz⟩:=h'.2.2.2;obtain⟨fu,pf,f1,f2,f3⟩:=zW hX.f hz;have nz:cP z:=hX.G.f _ (KQ hz);have ln:=nz.1.len;have zl:z.length=(cp z).length:=by show z.cps.size=_;unfold cp;simp
      have UO:∀y∈([Ts,SH]:Us),y.length<=4/\(y++(" ":Str)).length<=5/\y++(" ":Str)=S (cp y++[32]):=by decide +kernel
      obtain⟨hs4,hs5,hs6⟩:=UO s hs;have F':uJ (Dd.leaf ss (.go s j)) (.ref p) d lf fs H ps ms [some (V.ref p),some (.ref d),some (.ref lf),none,none,none,some (.ref lw),v7,v8,some (.str (s++(" ":Str)++z))] H2:=by
       refine⟨lw,ss,.go s j,v7,v8,rfl,?_,s2,e2⟩;refine d_ (fun z=>[some (V.ref p),some (.ref d),some (.ref lf),none,none,none,some (.ref lw),v7,v8,some (.str z)]) ?_;show s++(" ":Str)++z=S (aC [s,zO fs j]);rw[bK (by simp),cZ,fU hz,hs6];have e9:z=S (cp z):=(gw z).symm;rw[e9,bY,gx]
       congr 1
       try simp
      have hs7:s.length+(" ":Str).length<=sizeLine:=by
       have:(" ":Str).length=1:=by decide +kernel
       lia
      by_cases Wi:s=Ts
      ·refine⟨_,rfl,rfl,_,rfl,bF (a_ (by rw[Wi];rfl)) (fC ?_)⟩;refine⟨_,rfl,_,_,rfl,rfl,hs7,_,rfl,_,rfl,p,_,_,_,rfl,rfl,ON.of (s2 _ _ hp),jO,pe,_,_,_,rfl,rfl,ON.of (s2 _ _ U8),cM,lf,_,_,_,rfl,rfl,OO.of (s2 _ _ f1),bf f2,pf,_,_,_,rfl,rfl,ON.of (s2 _ _ f3),bH,_,_,rfl,rfl,?_,F'⟩;show(s++(" ":Str)).length+z.length<=sizeLine;lia
      ·have hca:s=SH:=by
        simp only[KH,KY,j_]at hs;exact hs.resolve_left Wi
       refine⟨_,rfl,rfl,_,rfl,bi (b_ fun e=>Wi (V.str.inj e)) ?_⟩;refine⟨_,rfl,rfl,_,rfl,bF (a_ (by rw[hca];rfl)) ?_⟩;refine⟨_,rfl,_,_,rfl,rfl,hs7,_,rfl,_,rfl,p,_,_,_,rfl,rfl,ON.of (s2 _ _ hp),jO,pe,_,_,_,rfl,rfl,ON.of (s2 _ _ U8),cM,lf,_,_,_,rfl,rfl,OO.of (s2 _ _ f1),bf f2,pf,_,_,_,rfl,rfl,ON.of (s2 _ _ f3),bH,_,_,rfl,rfl,?_,F'⟩;show(s++(" ":Str)).length+z.length<=sizeLine;lia
end
def pX:∀{c:Nat}{d:Dd},fE W ps ms fs m c d->fE W ps ms fs m (c+1) d
 |0,.leaf _ _,h=>h
 |_+1,.leaf _ _,h=>h
 |0,.ite _ _ _,h=>absurd h (by simp[fE])
 |c+1,.ite t y n,h=>⟨h.1,pX (c:=c) (d:=y) h.2.1,pX (c:=c) (d:=n) h.2.2⟩
def CC(h:fE W ps ms fs m c d)(hn:c<=n):fE W ps ms fs m n d:=by
 induction hn with
 |refl=>exact h
 |step _ ih=>exact pX ih
def pY:Nat->Nat
 |0=>1
 |m+1=>2*pY m+3
def jh:∀m,1<=pY m
 |0=>KO _
 |m+1=>by unfold pY;lia
def Ac(h:m<=n):pY m<=pY n:=by
 induction h with
 |refl=>exact KO _
 |step _ ih=>simp only[pY];lia
def iL:∀{m:Nat}{e:Ed},bj W ps ms fs m e->(c8 (dD ps ms fs e)).length<=pY m
 |m,.num _,_=>jh m
 |m,.fld _,_=>jh m
 |m,.pl _ _,_=>jh m
 |m,.mk _ _,_=>jh m
 |0,.cell _,h=>absurd h (by simp[bj])
 |m+1,.cell e,h=>by
  have h':bj W ps ms fs m e:=by simpa[bj]using h
  have:=iL h';have p:=jh m;simp only[dD,c8,pY,KC,Kz,K3];lia
 |0,.two _ _ _,h=>absurd h (by simp[bj])
 |m+1,.two o x y,h=>by
  have h':o∈O8/\bj W ps ms fs m x/\bj W ps ms fs m y:=by simpa[bj]using h
  have h1:=iL h'.2.1;have h2:=iL h'.2.2;simp only[dD,c8,pY,KC,Kz,K3];lia
def FE(h:gy W ps ms fs m g):(i4 (dE ps ms fs g)).length+1<=4+pY m+(if g.isCell=true then 1+pY m else 0):=by
 cases g with
 |cell a e=>
  have h1:=iL h.1;have h2:=iL h.2;have h3:=Ac (m:=m-1) (n:=m) zo;simp only[dE,i4,KC,Kz,K3,Sd.isCell,J_];lia
 |pl b n e=>
  have h2:=iL h.2;simp only[dE,i4,KC,Kz,K3,Sd.isCell,J_];lia
 |mk b n e=>
  have h2:=iL h.2;simp only[dE,i4,KC,Kz,K3,Sd.isCell,J_];lia
def sk:∀{s:List Sd},(∀g∈s,gy W ps ms fs m g)->(bZ (s.map (dE ps ms fs))).length<=s.length*(4+pY m)+(s.filter Sd.isCell).length*(1+pY m)
 |[],_=>by simp[bZ]
 |g::r,h=>by
  have h1:=FE (h g KB);have h2:=sk fun x hx=>h x (KM _ hx);simp only[K2,bZ,KC,Kz,RD,Q_];by_cases hg:g.isCell=true
  ·rw[LY hg,KC,RD,Q_];rw[f_ hg]at h1;lia
  ·rw[Mr hg];rw[e_ hg]at h1;lia
def jU(m:Nat):Nat->Nat
 |0=>4+4*(4+pY m)+(1+pY m)
 |c+1=>2*jU m c+6
def nZ(m:Nat):∀c,jU m 0<=jU m c
 |0=>KO _
 |c+1=>by have:=nZ m c;simp only[jU]at*;lia
def uK:∀{c:Nat}{d:Dd},fE W ps ms fs m c d->(dk (jf ps ms fs d)).length<=jU m c
 |c,.leaf s e,h=>by
  have h':s.length<=4/\(s.filter Sd.isCell).length<=1/\(∀g∈s,gy W ps ms fs m g)/\rZ fs e:=by cases c<;>exact h
  have h1:=sk h'.2.2.1;have h2:=nZ m c;have h3:s.length*(4+pY m)<=4*(4+pY m):=O_ _ h'.1;have h4:(s.filter Sd.isCell).length*(1+pY m)<=1*(1+pY m):=O_ _ h'.2.1;have h5:(gC (gB fs e)).length<=2:=by cases e<;>simp[gB,gC]
  simp only[jf,dk,KC,Kz,K3];simp only[jU]at h2;lia
 |0,.ite _ _ _,h=>absurd h (by simp[fE])
 |c+1,.ite t y n,h=>by
  have h1:=uK (c:=c) h.2.1;have h2:=uK (c:=c) h.2.2;simp only[jf,dk,jU,KC,Kz,K3];have h3:((if uD t=true then [(Ta:Str),qH ps ms fs t]else [qH ps ms fs t]):Us).length<=2:=by split<;>simp
  lia
def ji(fs:Uu):(dZ fs).length=3*fs.length-1:=by
 unfold dZ;rw[KG,rU];lia
def FF(h:KL W ps ms fn c k x):(cA x).length<=12+jU (k-1) c:=by
 obtain⟨j,hj,e⟩:=h.fn;have hl:x.fs.length<=3:=by
  have:=d_ List.length e;rw[Ky,KG]at this;lia
 have h1:=uK h.dd;unfold cA;rw[h.bd];simp only[KC,Kz,K3,ji];lia
def wq:∀{l:List Kn},(∀x∈l,(cA x).length<=b)->(l.flatMap cA).length<=l.length*b
 |[],_=>by simp
 |x::r,h=>by
  have h1:=h x KB;have h2:=wq fun y hy=>h y (KM _ hy);rw[LZ,Kz,KC,RD,Q_];lia
def FG(h:uE n c k):n*(12+jU (k-1) c)<=1400/\jU (k-1) c<=1000:=by
 have f:∀n' k' c' b,jU (k'-1) c'<=b->n'*(12+b)<=1400->b<=1000->n<=n'->k=k'->c=c'->n*(12+jU (k-1) c)<=1400/\jU (k-1) c<=1000:=by
  intro n' k' c' b h1 h2 h3 h4 h5 h6;subst h5 h6;exact⟨Ll (Nat.mul_le_mul h4 zo) h2,zo⟩
 rcases h with⟨_,h,rfl,rfl⟩|⟨rfl,rfl,rfl⟩|⟨_,h,rfl,rfl⟩|⟨_,h,rfl,h2,h3⟩
 ·exact f 8 2 0 100 zd zd zd h rfl rfl
 ·exact f 1 2 3 1000 zd zd zd (KO _) rfl rfl
 ·exact f 5 4 0 260 zd zd zd h rfl rfl
 ·have:k=2\/k=3:=by lia
  rcases this with rfl|rfl
  ·exact f 3 2 1 400 zd zd zd h rfl rfl
  ·exact f 3 3 1 400 zd zd zd h rfl rfl
def Ad(h:qI D fn gt):(fL D).length<=23:=by
 have h1:=h.p4;have h2:=h.m3;have h3:D.gates.length<=1:=by rw[h.ga];cases gt<;>simp[gL]
 unfold fL;simp only[KC,Kz,K3];lia
def mD(h:qI D fn gt):(dW D).length<=1500:=by
 obtain⟨c,k,hm,hk⟩:=h.kl;have h1:=Ad h;have h2:=wq (l:=D.kinds) fun x hx=>FF (hk x hx);have h3:=FG hm;unfold dW;rw[Kz];lia
def wr(h:qI D fn gt)(hx:x∈D.kinds):HI D.places D.marks x.fs:=by
 obtain⟨c,k,_,hk⟩:=h.kl;obtain⟨j,_,hj⟩:=(hk x hx).fn;refine⟨fun z hz=>h.nf z (by simp[hz]),fun z hz=>h.nf z (by simp[hz]),fun f hf=>?_⟩;have:f.1∈x.fs.map (·.1):=K4.mpr ⟨f,hf,rfl⟩;rw[hj]at this;exact h.nf _ (K6 _ (LX this))
def uL(h:qI D fn gt)(hx:x∈D.kinds):fA D.width 3 x.bd:=by
 obtain⟨c,k,hm,hk⟩:=h.kl;have:=nU hm;rw[(hk x hx).bd];exact nW (wr h hx) zo (hk x hx).dd zo
def pZ(h:qI D fn gt)(hx:x∈D.kinds):x.fs.length<=3:=by
 obtain⟨c,k,_,hk⟩:=h.kl;obtain⟨j,hj,e⟩:=(hk x hx).fn;have:=d_ List.length e;rw[Ky,KG]at this;lia
def uM(h:qI D fn gt)(hx:x∈D.kinds):∀f∈x.fs,f.2∈db:=by
 obtain⟨c,k,_,hk⟩:=h.kl;exact(hk x hx).st
def mE(h:qI D fn gt):∀z∈D.gates,z∈D.marks:=by
 intro z hz;rw[h.ga]at hz;cases US:gt with
 |none=>rw[US]at hz;cases hz
 |some g=>
  rw[US]at hz;have Xe:=h.gb g US;rw[Lb.mp hz,KP,KF Xe];exact Lo Xe
def uN(h:s∈db):s∈PH:=by
 have:∀s∈db,s∈PH:=by decide +kernel
 exact this s h
def Ae(h:∀f∈fs,OY f.1/\f.2∈db):∀z∈dZ fs,Py z:=by
 intro z hz;have VD:=LX hz;unfold pO at VD;obtain⟨x,hx,VD⟩:=Mu.mp VD;simp only[KH,KY,j_]at VD;rcases VD with rfl|rfl|rfl
 ·exact .name (h x hx).1
 ·exact .word (uN (h x hx).2)
 ·exact .sign zk
def wt(h:qI D fn gt):∀z∈fL D,Py z:=by
 have U3:=h.c64;have hw24:=h.w24;have Xf:=h.d8;intro z hz;unfold fL at hz;simp only[La,KH,KY,j_]at hz;have wd:∀z∈PH,Py z:=fun z hz=>.word hz;have nm:∀z∈D.places++D.marks,Py z:=fun z hz=>.name (h.nf z (LI _ hz)).1;rcases hz with(((((rfl|rfl|rfl|rfl|rfl|rfl|rfl|rfl|rfl)|(rfl|hz)|rfl)|(rfl|hz)|rfl)|rfl)|hz)|rfl
 ·exact wd _ zk
 ·exact .num zo
 ·exact .sign zk
 ·exact wd _ zk
 ·exact .num zo
 ·exact .sign zk
 ·exact wd _ zk
 ·exact .num zo
 ·exact .sign zk
 ·exact wd _ zk
 ·exact nm z (LI _ hz)
 ·exact .sign zk
 ·exact wd _ zk
 ·exact nm z (K6 _ hz)
 ·exact .sign zk
 ·exact wd _ zk
 ·exact nm z (K6 _ (mE h z hz))
 ·exact .sign zk
def p7(h:qI D fn gt)(hx:x∈D.kinds):∀z∈cA x,Py z:=by
 intro z hz;unfold cA at hz;simp only[La,KH,KY,j_]at hz;rcases hz with(((rfl|rfl|rfl)|hz)|rfl)|hz
 ·exact .word zk
 ·exact .name (h.kf x hx).1
 ·exact .sign zk
 ·exact Ae (fun f hf=>⟨((wr h hx).f f hf).1,uM h hx f hf⟩) z hz
 ·exact .sign zk
 ·exact nV h.w24 (uL h hx) z hz
def CD(h:qI D fn gt):∀z∈dW D,Py z:=by
 intro z hz;rcases La.mp hz with hz|hz
 ·exact wt h z hz
 ·obtain⟨x,hx,hz⟩:=Mu.mp hz;exact p7 h hx z hz
def Af(h:l[n]?=some z):(z,st,false,n)∈iO st l:=KQ (i:=n) (by rw[lX,h];rfl)
def HM(h:fs[j]?=some (z,st)):(z,st,true,j)∈fN fs:=KQ (i:=j) (by rw[zc,h];rfl)
structure FH(ks:List Ne)(ps ms:Us)(fs:Uu):Prop where
 p:∀(n:Nat)(z:Str),ps[n]?=some z->(z,(Sn:Str),false,n)∈ks
 m:∀(n:Nat)(z:Str),ms[n]?=some z->(z,(Su:Str),false,n)∈ks
 f:∀(n:Nat)(z s:Str),fs[n]?=some (z,s)->(z,s,true,n)∈ks
def HN(D:Fm)(fs:Uu):FH (ik D++fN fs) D.places D.marks fs:=
 ⟨fun n z h=>LI _ (LI _ (Af h)),fun n z h=>LI _ (K6 _ (Af h)),fun n z s h=>K6 _ (HM h)⟩
section
variable{ks:List Ne}
def iM{L:Us}{st:Str}{fs:Uu}{b:Bool}{n:Nat}(hL:∀(n:Nat)(z:Str),L[n]?=some z->(z,st,false,n)∈ks)(hF:∀(n:Nat)(z s:Str),fs[n]?=some (z,s)->(z,s,true,n)∈ks)(h:cB L st fs b n):(fF L fs b n,st,b,n)∈ks:=by
 unfold cB at h;unfold fF;cases b with
 |true=>
  rw[f_ rfl]at h⊢;obtain⟨z,hz⟩:=h;rw[fU hz];exact hF _ _ _ hz
 |false=>
  rw[e_ zd]at h⊢;rw[KP,KF h];exact hL _ _ (KF h)
variable{ps ms:Us}{W:Nat}
def uO{fs:Uu}(G:FH ks ps ms fs):∀{m:Nat}{e:Ed},bj W ps ms fs m e->uz ks (dD ps ms fs e) e
 |_,.num n,h=>.num n
 |m,.fld j,h=>by
  have h':∃z:Str,fs[j]?=some (z,("number":Str)):=by cases m<;>simpa[bj]using h
  obtain⟨z,hz⟩:=h';refine .fld (b:=true) ?_;rw[fU hz];exact G.f _ _ _ hz
 |m,.pl b n,h=>by
  have h':cB ps Sn fs b n:=by cases m<;>simpa[bj]using h
  exact .pl (iM G.p G.f h')
 |m,.mk b n,h=>by
  have h':cB ms Su fs b n:=by cases m<;>simpa[bj]using h
  exact .mk (iM G.m G.f h')
 |0,.cell _,h=>absurd h (by simp[bj])
 |m+1,.cell e,h=>.cell (uO G (m:=m) (e:=e) (by simpa[bj]using h))
 |0,.two _ _ _,h=>absurd h (by simp[bj])
 |m+1,.two o x y,h=>by
  have h':o∈O8/\bj W ps ms fs m x/\bj W ps ms fs m y:=by simpa[bj]using h
  exact .two h'.1 (uO G (m:=m) h'.2.1) (uO G (m:=m) h'.2.2)
variable{m:Nat}
def JJ{fs:Uu}(G:FH ks ps ms fs){g:Sd}(h:gy W ps ms fs m g):Fd ks (dE ps ms fs g) g:=by
 cases g with
 |cell a e=>exact .cell (uO G h.1) (uO G h.2)
 |pl b n e=>exact .pl (iM G.p G.f h.1) (uO G h.2)
 |mk b n e=>exact .mk (iM G.m G.f h.1) (uO G h.2)
def JK(G:FH ks ps ms fs)(h:rZ fs e):Gz ks (gB fs e) e:=by
 cases e with
 |w0 s=>exact .w0 h
 |fault z=>exact .fault z
 |go s j=>
  obtain⟨h1,z,hz⟩:=h;refine .go (b:=true) h1 ?_;rw[fU hz];exact G.f _ _ _ hz
def JL{fs:Uu}(G:FH ks ps ms fs){t:Tt}(h:Cr ps ms fs t):GA ks (uD t) (qH ps ms fs t) t:=by
 cases t with
 |top b n=>exact .top (iM G.p G.f h)
 |pl b n=>exact .pl (iM G.p G.f h)
 |mk b n=>exact .mk (iM G.m G.f h)
def Ag(G:FH ks ps ms fs):∀{s:List Sd},(∀g∈s,gy W ps ms fs m g)->Paired (Fd ks) (s.map (dE ps ms fs)) s
 |[],_=>.nil
 |g::r,h=>.cons (JJ G (h g KB)) (Ag G fun x hx=>h x (KM _ hx))
def FJ(G:FH ks ps ms fs):∀{c:Nat}{d:Dd},fE W ps ms fs m c d->Fe ks (jf ps ms fs d) d
 |c,.leaf s e,h=>by
  have h':s.length<=4/\(s.filter Sd.isCell).length<=1/\(∀g∈s,gy W ps ms fs m g)/\rZ fs e:=by cases c<;>exact h
  exact .leaf (Ag G h'.2.2.1) (JK G h'.2.2.2)
 |0,.ite _ _ _,h=>absurd h (by simp[fE])
 |c+1,.ite t y n,h=>.ite (JL G h.1) (FJ G (c:=c) h.2.1) (FJ G (c:=c) h.2.2)
def ii:∀{m:Nat}{x:Ex},cV w m x->qG x<=m
 |_,.num _,_=>Lh _
 |_,.nm _,_=>Lh _
 |0,.cell _,h=>absurd h (by simp[cV])
 |m+1,.cell e,h=>by
  have:=ii (m:=m) (x:=e) h;simp only[qG];lia
 |0,.two _ _ _,h=>absurd h (by simp[cV])
 |m+1,.two o x y,h=>by
  have h1:=ii (m:=m) h.2.1;have h2:=ii (m:=m) h.2.2;simp only[qG];lia
def CF(h:jM w g):Hn g<=3:=by
 cases g with
 |cell a e=>
  have h1:=ii h.1;have h2:=ii h.2;simp only[Hn];lia
 |nm z e=>exact ii h.2
def uP:∀{m:Nat}{b:Bd},fA w m b->Bf b<=m
 |_,.leaf _ _,_=>Lh _
 |0,.ite _ _ _ _,h=>absurd h (by simp[fA])
 |m+1,.ite t z y n,h=>by
  have h1:=uP (m:=m) h.2.1;have h2:=uP (m:=m) h.2.2;simp only[Bf];lia
def mF:∀{m:Nat}{b:Bd},fA w m b->rL 3 b
 |m,.leaf s e,h=>by
  have h':s.length<=4/\(∀g∈s,jM w g):=by cases m<;>exact⟨h.1,h.2.1⟩
  exact⟨fun g hg=>CF (h'.2 g hg),h'.1⟩
 |0,.ite _ _ _ _,h=>absurd h (by simp[fA])
 |m+1,.ite t z y n,h=>⟨mF (m:=m) h.2.1,mF (m:=m) h.2.2⟩
def kJ(st:Str)(l:Us):(iO st l).map (·.1)=l:=by
 refine RV fun i=>?_;rw[KZ,lX];cases l[i]?<;>rfl
def FK(fs:Uu):(fN fs).map (·.1)=fs.map (·.1):=by
 refine RV fun i=>?_;rw[KZ,zc,KZ];cases fs[i]?<;>rfl
def FM(h:qI D fn gt)(hx:x∈D.kinds):Ff (ik D) x:=by
 obtain⟨c,k,hm,hk⟩:=h.kl;have hb:=uL h hx;refine⟨?_,pZ h hx,?_,uP hb,mF hb⟩
 ·obtain⟨j,_,hj⟩:=(hk x hx).fn;unfold ik;rw[KJ,KJ,kJ,kJ,FK,hj];exact List.Nodup.sublist (List.Sublist.append (List.Sublist.refl _) (RU _ _)) h.nd
 ·rw[(hk x hx).bd];exact FJ (HN D x.fs) (hk x hx).dd
def uQ(h:qI D fn gt):pL D:=by
 obtain⟨c,k,hm,hk⟩:=h.kl;have:=nU hm;refine⟨?_,mE h,by rw[h.ga];cases gt<;>simp[gL],h.kn,fun x hx=>FM h hx,h.p4,h.m3,zo⟩;unfold ik;rw[KJ,kJ,kJ];exact(Ms.mp h.nd).1
def ca(e:ts=A++x::B)(h:A.length=k):(tz ts)[k]?=some x:=by
 subst e h;unfold tz;rw[Le,L0 (KO _)];simp
def p9(e:ts=A++(zs++B))(h:A.length=k)(hn:∀z∈zs,OY z):rF ts k zs:=by
 intro i hi;refine⟨ca (A:=A++zs.take i) (B:=zs.drop (i+1)++B) ?_ ?_,hn _ (Lo hi)⟩
 ·rw[e,Le]
  congr 1
  rw[<-LM,<-Lq hi,<-Le,Ly]
 ·rw[Kz,KG];lia
def CG(e:ts=A++(zs++B))(h:A.length=k):At ts k zs:=by
 intro i z hz;obtain⟨hi,rfl⟩:=Kx.mp hz;refine ca (A:=A++zs.take i) (B:=zs.drop (i+1)++B) ?_ ?_
 ·rw[e,Le]
  congr 1
  rw[<-LM,<-Lq hi,<-Le,Ly]
 ·rw[Kz,KG];lia
def Ah:dZ []=[]:=rfl
def jk(x:Str×Str):dZ [x]=[x.1,x.2]:=rfl
def jl(x y:Str×Str)(r:Uu):dZ (x::y::r)=x.1::x.2::(",":Str)::dZ (y::r):=by
 unfold dZ;have e:pO (x::y::r)=[x.1,x.2,","]++pO (y::r):=rfl;have h1:=rU (y::r);rw[e,Kz,List.take_append];have h2:[x.1,x.2,(",": Str)].length+(pO (y::r)).length-1-[x.1,x.2,(",": Str)].length=(pO (y::r)).length-1:=by
  simp only[KC]at h1;simp;lia
 rw[h2,LB (by
  simp only[KC]at h1;simp;lia)]
 rfl
def sn:∀(fs:Uu){A B ts:Us}{k:Nat},ts=A++(dZ fs++B)->A.length=k->(∀f∈fs,OY f.1/\f.2∈db)->ul ts k fs
 |[],_,_,_,_,_,_,_=>fun i h=>absurd h (by simp)
 |[x],A,B,ts,k,e,h,hf=>fun i hi=>by
  have h0:i=0:=by simpa using hi
  subst h0;rw[jk]at e;have hx:=hf x KB;refine⟨ca (A:=A) (B:=x.2::B) e h,hx.1,ca (A:=A++[x.1]) (B:=B) (by rw[e];simp) (by simp[h]),hx.2,fun hh=>absurd hh (by simp)⟩
 |x::y::r,A,B,ts,k,e,h,hf=>fun i hi=>by
  rw[jl]at e;have hx:=hf x KB;cases i with
  |zero=>
   refine⟨ca (A:=A) (B:=x.2::(",":Str)::(dZ (y::r)++B)) (by rw[e];simp) h,hx.1,ca (A:=A++[x.1]) (B:=(",":Str)::(dZ (y::r)++B)) (by rw[e];simp) (by simp[h]),hx.2,fun _=>ca (A:=A++[x.1,x.2]) (B:=dZ (y::r)++B) (by rw[e];simp) (by simp[h])⟩
  |succ i=>
   have ih:=sn (y::r) (A:=A++[x.1,x.2,(",":Str)]) (B:=B) (ts:=ts) (k:=k+3) (by rw[e];simp) (by simp[h]) (fun f hf'=>hf f (KM _ hf')) i (by simpa using hi);have e1:k+3+3*i=k+3*(i+1):=by lia
   rw[e1]at ih;refine⟨ih.1,ih.2.1,ih.2.2.1,ih.2.2.2.1,fun hh=>ih.2.2.2.2 (by simpa using hh)⟩
def Ai(e:ts=A++(cA x++B))(h:A.length=k)(hn:OY x.name)(hf:∀f∈x.fs,OY f.1/\f.2∈db)(h3:x.fs.length<=3)(hb:fA w 3 x.bd):um ts w k x:=by
 unfold cA at e;have fl:=ji x.fs;refine⟨ca (A:=A) (B:=[x.name,("(":Str)]++dZ x.fs++[(")":Str)]++dk x.bd++B) (by rw[e];simp) h,
  ca (A:=A++[(SF:Str)]) (B:=[("(":Str)]++dZ x.fs++[(")":Str)]++dk x.bd++B) (by rw[e];simp) (by simp[h]),hn,
  ca (A:=A++[(SF:Str),x.name]) (B:=dZ x.fs++[(")":Str)]++dk x.bd++B) (by rw[e];simp) (by simp[h]),
  sn x.fs (A:=A++[(SF:Str),x.name,("(":Str)]) (B:=[(")":Str)]++dk x.bd++B) (by rw[e];simp) (by simp[h]) hf,
  ca (A:=A++[(SF:Str),x.name,("(":Str)]++dZ x.fs) (B:=dk x.bd++B) (by rw[e];simp) (by simp[h,fl];lia),h3,
  CG (A:=A++[(SF:Str),x.name,("(":Str)]++dZ x.fs++[(")":Str)]) (B:=B) (by rw[e];simp) (by simp[h,fl];lia),hb⟩
def FN(x:Kn):(cA x).length=xh x:=by
 unfold cA xh;simp only[Kz,KC,K3,ji];lia
def oa:∀(l:List Kn){A ts:Us}{k:Nat},ts=A++l.flatMap cA->A.length=k->(∀x∈l,OY x.name/\(∀f∈x.fs,OY f.1/\f.2∈db)/\x.fs.length<=3/\fA w 3 x.bd)->ky ts w k l
 |[],A,ts,k,e,h,_=>by
  show k=ts.length;rw[e];simp[h]
 |x::r,A,ts,k,e,h,hx=>by
  rw[LZ]at e;obtain⟨h1,h2,h3,h4⟩:=hx x KB;exact⟨Ai e h h1 h2 h3 h4,oa r (A:=A++cA x) (by rw[e];simp) (by rw[Kz,FN,h]) (fun y hy=>hx y (KM _ hy))⟩
def CI(h:qI D fn gt):pF (dW D) D:=by
 obtain⟨c,k,hm,hk⟩:=h.kl;have hmd:=nU hm;have nP:∀z∈D.places,OY z:=fun z hz=>(h.nf z (by simp[hz])).1;have nM:∀z∈D.marks,OY z:=fun z hz=>(h.nf z (by simp[hz])).1;generalize hR:D.kinds.flatMap cA=R;have e0:dW D=[(SE:Str),(toString (D.width:Int):Str),(";":Str),(Sw:Str),(toString (D.cells:Int):Str),(";":Str),(Sx:Str),(toString (D.depth:Int):Str),(";":Str),(So:Str)]++(D.places++([(";":Str),(Ss:Str)]++(D.marks++([(";":Str),(SS:Str)]++(D.gates++([(";":Str)]++R)))))):=by
  unfold dW fL;rw[hR];simp
 refine⟨ca (A:=[]) e0 rfl,ca (A:=[(SE:Str)]) e0 rfl,ca (A:=[(SE:Str),_]) e0 rfl,ca (A:=[(SE:Str),_,(";":Str)]) e0 rfl,ca (A:=[(SE:Str),_,(";":Str),(Sw:Str)]) e0 rfl,ca (A:=[(SE:Str),_,(";":Str),(Sw:Str),_]) e0 rfl,ca (A:=[(SE:Str),_,(";":Str),(Sw:Str),_,(";":Str)]) e0 rfl,ca (A:=[(SE:Str),_,(";":Str),(Sw:Str),_,(";":Str),(Sx:Str)]) e0 rfl,ca (A:=[(SE:Str),_,(";":Str),(Sw:Str),_,(";":Str),(Sx:Str),_]) e0 rfl,ca (A:=[(SE:Str),_,(";":Str),(Sw:Str),_,(";":Str),(Sx:Str),_,(";":Str)]) e0 rfl,
  p9 e0 rfl nP,?_,?_,?_,?_,?_,?_,?_,?_,⟨h.w4,h.w24⟩,⟨h.c4,h.c64⟩,h.d8,⟨h.p1,h.p4⟩,h.m3,(uQ h).g1,⟨zo,zo⟩⟩
 all_goals (have hW:([(SE:Str),(toString (D.width:Int):Str),(";":Str),(Sw:Str),(toString (D.cells:Int):Str),(";":Str),(Sx:Str),(toString (D.depth:Int):Str),(";":Str),(So:Str)]:Us).length=10:=rfl)
 all_goals (generalize ([(SE:Str),(toString (D.width:Int):Str),(";":Str),(Sw:Str),(toString (D.cells:Int):Str),(";":Str),(Sx:Str),(toString (D.depth:Int):Str),(";":Str),(So:Str)]:Us)=W at*)
 ·exact ca (A:=W++D.places) (B:=(Ss:Str)::(D.marks++([(";":Str),(SS:Str)]++(D.gates++([(";":Str)]++R))))) (by rw[e0];simp) (by simp[hW])
 ·exact ca (A:=W++D.places++[(";":Str)]) (B:=D.marks++([(";":Str),(SS:Str)]++(D.gates++([(";":Str)]++R)))) (by rw[e0];simp) (by simp[hW];lia)
 ·exact p9 (A:=W++D.places++[(";":Str),(Ss:Str)]) (B:=[(";":Str),(SS:Str)]++(D.gates++([(";":Str)]++R))) (by rw[e0];simp) (by simp[hW];lia) nM
 ·exact ca (A:=W++D.places++[(";":Str),(Ss:Str)]++D.marks) (B:=(SS:Str)::(D.gates++([(";":Str)]++R))) (by rw[e0];simp) (by simp[hW];lia)
 ·exact ca (A:=W++D.places++[(";":Str),(Ss:Str)]++D.marks++[(";":Str)]) (B:=D.gates++([(";":Str)]++R)) (by rw[e0];simp) (by simp[hW];lia)
 ·exact p9 (A:=W++D.places++[(";":Str),(Ss:Str)]++D.marks++[(";":Str),(SS:Str)]) (B:=[(";":Str)]++R) (by rw[e0];simp) (by simp[hW];lia) (fun z hz=>nM z (mE h z hz))
 ·exact ca (A:=W++D.places++[(";":Str),(Ss:Str)]++D.marks++[(";":Str),(SS:Str)]++D.gates) (B:=R) (by rw[e0];simp) (by simp[hW];lia)
 ·subst hR;refine oa D.kinds (A:=W++D.places++[(";":Str),(Ss:Str)]++D.marks++[(";":Str),(SS:Str)]++D.gates++[(";":Str)]) (by rw[e0];simp) (by simp[hW];lia) (fun x hx=>⟨(h.kf x hx).1,fun f hf=>⟨((wr h hx).f f hf).1,uM h hx f hf⟩,pZ h hx,uL h hx⟩)
end
def jV(hs:s=[]\/∃c r,s=c::r/\TK.gA c=true):∀ts:List (Ut),ts≠[]->(∀t∈ts,TK.Tok t)->TK.toks (TK.jn [32] ts++s)=ts++TK.toks s
 |[],h,_=>absurd rfl h
 |[t],_,h=>TK.qV (h t KB) hs
 |t::u::r,_,h=>by
  have ih:=jV hs (u::r) (by simp) (fun x hx=>h x (KM _ hx));show TK.toks ((t++(32::TK.jn [32] (u::r)))++s)=_;rw[Le,LM,TK.qV (h t KB) (.inr ⟨32,_,rfl,rfl⟩),TK.kZ (show TK.gA 32=true from rfl),ih];rfl
def mG:∀gs:List (List (Ut)),(∀g∈gs,g≠[]/\∀t∈g,TK.Tok t)->TK.toks (TK.jn [10] (gs.map (TK.jn [32])))=gs.flatten
 |[],_=>rfl
 |[g],h=>by
  have hg:=h g KB;have:=jV (s:=[]) (.inl rfl) g hg.1 hg.2;rw[Lm]at this;show TK.toks (TK.jn [32] g)=_;rw[this];simp[TK.qT]
 |g::k::r,h=>by
  have hg:=h g KB;have ih:=mG (k::r) (fun x hx=>h x (KM _ hx));show TK.toks (TK.jn [32] g++(10::TK.jn [10] ((k::r).map (TK.jn [32]))))=_;rw[jV (.inr ⟨10,_,rfl,rfl⟩) g hg.1 hg.2,TK.kZ (show TK.gA 10=true from rfl),ih];rfl
def CJ(D:Fm):List (Us):=fL D::D.kinds.map cA
def uR(D:Fm):∀g∈CJ D,g≠[]:=by
 intro g hg;rcases KH.mp hg with rfl|hg
 ·simp[fL]
 ·obtain⟨x,_,rfl⟩:=K4.mp hg;simp[cA]
def jm(D:Fm):(CJ D).flatten=dW D:=by
 unfold CJ dW;rw[LU,List.flatMap_def]
def wu(D:Fm):i9 D D.kinds=(CJ D).map aC:=by
 unfold i9 CJ;rw[K2,Lz];rfl
def xz(h:∀z∈dW D,Py z):TK.toks (gf D)=(dW D).map cp:=by
 unfold gf;rw[wu];have:=mG ((CJ D).map fun g=>g.map cp) (fun g hg=>by
  obtain⟨g0,XE,rfl⟩:=K4.mp hg;refine⟨by simpa using uR D g0 XE,fun t ht=>?_⟩;obtain⟨z,hz,rfl⟩:=K4.mp ht;exact(h z (by rw[<-jm];exact List.mem_flatten.mpr ⟨g0,XE,hz⟩)).tok)
 rw[Lz]at this;have e:((CJ D).map fun g=>g.map cp).flatten=(dW D).map cp:=by
  rw[<-jm,List.map_flatten]
 rw[e]at this;exact this
def JM(h:Py z)(hc:TK.gA c=true):c∉cp z:=fun hm=>by
 have:=h.tok.ng c hm;rw[hc]at this;cases this
def Aj(hs:c∉sep):∀{ts:List (Ut)},(∀t∈ts,c∉t)->c∉TK.jn sep ts
 |[],_=>by simp[TK.jn]
 |[t],h=>h t KB
 |t::u::r,h=>by
  have ih:=Aj hs (ts:=u::r) (fun x hx=>h x (KM _ hx));show c∉t++(sep++TK.jn sep (u::r));rw[La,La];rintro(h1|h1|h1)
  ·exact h t KB h1
  ·exact hs h1
  ·exact ih h1
def xA(h:∀z∈zs,Py z):10∉aC zs:=by
 unfold aC;refine Aj zd fun t ht=>?_;obtain⟨z,hz,rfl⟩:=K4.mp ht;exact JM (h z hz) rfl
def Ak(h:ts≠[])(hn:∀t∈ts,t≠[]):TK.jn sep ts≠[]:=by
 cases ts with
 |nil=>exact absurd rfl h
 |cons t r=>
  have ht:=hn t KB;cases r with
  |nil=>exact ht
  |cons u r=>
   show t++_≠[];simp[ht]
def CM(h:zs≠[])(ht:∀z∈zs,Py z):aC zs≠[]:=by
 unfold aC;refine Ak (by simpa using h) fun t hm=>?_;obtain⟨z,hz,rfl⟩:=K4.mp hm;exact(ht z hz).tok.ne
def xB(h:∀z∈dW D,Py z):Txt.replace (S (gf D)) (S [10]) (S [32])=S (aC (dW D)):=by
 have hg:∀g∈CJ D,∀z∈g,Py z:=fun g hg z hz=>h z (by rw[<-jm];exact List.mem_flatten.mpr ⟨g,hg,hz⟩);have e:=StrLaws.replace_one (S (gf D)) (S [32]) 10;have e1:(⟨#[10]⟩:Str)=S [10]:=rfl;rw[e1]at e;rw[e];unfold gf;rw[wu,zy 10 _ ?_ ?_,gP,gk _ (uR D),jm]
 ·refine Ak (by simp[CJ]) fun t ht=>?_;obtain⟨g,U_,rfl⟩:=K4.mp ht;exact CM (uR D g U_) (hg g U_)
 ·intro t ht;obtain⟨g,U_,rfl⟩:=K4.mp ht;exact xA (hg g U_)
def qa(z:Str):(cp z).length=z.length:=by unfold cp;simp[Str.length]
def Al(h:∀z∈dW D,Py z)(hl:(dW D).length<=1500):(gf D).length<=15000:=by
 have h1:(gf D).length=(aC (dW D)).length:=by
  have:=d_ (fun z=>(cp z).length) (xB h);simp only[gx]at this;rw[<-this,qa];have:=yo (S (gf D)) 10 32;have e1:(⟨#[10]⟩:Str)=S [10]:=rfl;have e2:(⟨#[32]⟩:Str)=S [32]:=rfl;rw[e1,e2]at this;rw[this,aN]
 have h2:=bO h;lia
def wv(h:fs≠[]):dZ fs≠[]:=by
 cases fs with
 |nil=>exact absurd rfl h
 |cons x r=>
  cases r with
  |nil=>rw[jk];simp
  |cons y r=>rw[jl];simp
def mX(fs:Uu):List (Ut):=fs.map fun x=>cp x.1++(32::cp x.2)
def Am:∀fs:Uu,TK.jn [32,44,32] (mX fs)=aC (dZ fs)
 |[]=>rfl
 |[x]=>by
  rw[jk,bK (by simp),cZ];rfl
 |x::y::r=>by
  have ih:=Am (y::r);show TK.jn [32,44,32] ((cp x.1++(32::cp x.2))::mX (y::r))=_;rw[ig (by simp[mX]),ih,jl,bK (by simp),bK (by simp),bK (wv (by simp))];have e:cp (",":Str)=[44]:=by decide +kernel
  rw[e];simp
def An(hl:H l=some (.lst (dq xs)))(hb:H b=some (.lst (dq zs)))(hz:xs.length+zs.length<=1000000)(q:∀c H',OM H H'->H c=none->H' c=some (.lst (dq (xs++zs)))->Q (.ref c) H'):Bu (.ref l) (.ref b) H Q:=by
 rw[md]at hl hb;refine vZ hl hb (by simpa using hz) fun c H' s n e=>q c H' s n ?_;rw[md,KJ];exact e
def JN:(" , ":Str)=S [32,44,32]:=by decide +kernel
def uS:∀{xs:List α}{ys:List β},Paired R xs ys->xs.length=ys.length
 |_,_,.nil=>rfl
 |_,_,.cons _ t=>by rw[KC,KC,uS t]
def CO(f:Str×Str)(h1:OY f.1)(h2:f.2∈db):f.1.length<=8/\f.2.length<=8:=by
 have:∀z∈db,z.length<=8:=by decide +kernel
 exact⟨h1.2.2.1,this _ h2⟩
def JP(f:Str×Str):(f.1++(" ":Str)=S (cp f.1++[32]))/\(S (cp f.1++[32])++f.2=S (cp f.1++(32::cp f.2))):=by
 have e1:=gw f.1;have e2:=gw f.2;constructor
 ·rw[pN];conv=>lhs;rw[<-e1]
  rw[bY]
 ·conv=>lhs;rw[<-e2]
  rw[bY]
  congr 1
  simp
def oe(fs:Uu):(S (aC (dZ fs))=("":Str))↔fs=[]:=by
 constructor
 ·intro h;by_cases e:fs=[]
  ·exact e
  ·exfalso;have h2:=d_ cp h;rw[gx]at h2;have h3:cp ("":Str)=[]:=by decide +kernel
   rw[h3]at h2;cases fs with
   |nil=>exact e rfl
   |cons x r=>
    have h4:aC (dZ (x::r))=cp x.1++(32::aC ((dZ (x::r)).tail)):=by
     cases r with
     |nil=>rw[jk,bK (by simp)];rfl
     |cons y r=>rw[jl,bK (by simp)];rfl
    rw[h4]at h2;simp at h2
 ·rintro rfl;decide +kernel
def mH(D:Fm):List (Us):=[[SE,(toString (D.width:Int):Str)],[Sw,(toString (D.cells:Int):Str)],[Sx,(toString (D.depth:Int):Str)],(So:Str)::D.places,(Ss:Str)::D.marks,(SS:Str)::D.gates]
def CP(D:Fm):TK.jn [32] ((mH D).map fun g=>aC (g++[(";":Str)]))=aC (fL D):=by
 have h:=gk ((mH D).map fun g=>g++[(";":Str)]) (by
  intro g hg;obtain⟨g0,_,rfl⟩:=K4.mp hg;simp)
 rw[Lz]at h;have e:((mH D).map fun g=>g++[(";":Str)]).flatten=fL D:=by
  unfold mH fL;simp
 rw[e]at h;exact h
def so(fs:Uu):List (Us):=if fs=[]then []else [dZ fs]
def CQ(x:Kn):TK.jn [32] ([cp SF,cp x.name,cp "("]++(so x.fs).map aC++[cp ")"]++[aC (dk x.bd)])=aC (cA x):=by
 have h:=gk ([[(SF:Str)],[x.name],[("(":Str)]]++so x.fs++[[(")":Str)]]++[dk x.bd]) (by
  intro g hg;simp only[La,KH,KY,j_]at hg;rcases hg with((((rfl|rfl|rfl)|hg)|rfl)|rfl)
  ·simp
  ·simp
  ·simp
  ·unfold so at hg;split at hg
   ·cases hg
   ·rw[Lb.mp hg];exact wv (by assumption)
  ·simp
  ·exact mB _)
 have e:([[(SF:Str)],[x.name],[("(":Str)]]++so x.fs++[[(")":Str)]]++[dk x.bd]).flatten=cA x:=by
  unfold cA so;split
  ·rename_i hn;rw[hn,Ah];simp
  ·simp
 rw[e]at h;rw[<-h];simp only[KJ,K2,LP];rfl
def Ao(ms:Us)(gt:Option Nat)(i:Nat):Us:=match gt with
 |none=>[]
 |some g=>if g<i then [ms.getD g ""]else []
def Ap(h:∀g,gt=some g->g<ms.length):Ao ms gt ms.length=gL ms gt:=by
 cases gt with
 |none=>rfl
 |some g=>show(if g<ms.length then _ else _)=_;rw[f_ (h g rfl)];rfl
def og(h:ms[i]?=some z):Ao ms gt (i+1)=Ao ms gt i++(if decide (V.int (i:Nat)=gV gt)=true then [z]else []):=by
 cases gt with
 |none=>
  have:decide (V.int (i:Nat)=gV none)=false:=b_ fun e=>by cases e
  rw[this];rfl
 |some g=>
  show(if g<i+1 then [ms.getD g ""]else [])=(if g<i then [ms.getD g ""]else [])++_;by_cases e:i=g
  ·subst e;rw[f_ zo,e_ zo,f_ (show decide (V.int (i:Nat)=gV (some i))=true from a_ rfl),KP,h];rfl
  ·have:decide (V.int (i:Nat)=gV (some g))=false:=b_ fun e'=>e (by have:=V.int.inj e';lia);rw[this];by_cases h1:g<i
   ·rw[f_ zo,f_ h1];simp
   ·rw[e_ zo,e_ h1];simp
def qb{n:Nat}(h:n<=1000):(toString (n:Int):Str).length<=8:=by
 rw[iH,aN];exact(gN n).2 8 zd zo
def qc(h:a=S (l++[32]))(hl:l=cp (S l))(z:Str):a++z=S (aC [S l,z]):=by
 rw[bK (by simp),cZ,h];have e:z=S (cp z):=(gw z).symm;rw[e,bY,gx,gx]
 congr 1
 simp
def FP:("word ":Str)=S ([119,111,114,100]++[32])/\("cells ":Str)=S ([99,101,108,108,115]++[32])/\("depth ":Str)=S ([100,101,112,116,104]++[32]):=by decide +kernel
def FQ:S [119,111,114,100]=(SE:Str)/\S [99,101,108,108,115]=(Sw:Str)/\S [100,101,112,116,104]=(Sx:Str):=by decide +kernel
inductive qd(vs:Uv)(H:Hp)(Q:VK)(Z3:XK):Prop
 |mk(d D gt kvs lp lm lk us fn:_):vs=[.ref d]->Rn H d D gt kvs lp lm lk us->qI D fn gt->(∀H',OM H H'->Q (.str (S (gf D))) H')->qd vs H Q Z3
def Rn.same(h:Rn H d D gt kvs lp lm lk us)(s:OM H H'):Rn H' d D gt kvs lp lm lk us:=
 ⟨s _ _ h.ed,h.v1,h.v2,h.v3,h.v4,h.v5,h.v6,h.v7,s _ _ h.ep,s _ _ h.em,s _ _ h.ek,bD (fun _ _ h'=>Rl.kp (av s) (fun x us nx fs e _=>s _ _ e) h') h.ks⟩
section
def Pe:az [Si,TJ,S3,SW,Sk,Sq,TB,SD] [Si] (ak iD):=cv zk
def DR:([Tk,SW,Si]:Us).Nodup:=by decide +kernel
def HP:(["_law_part"]:Us).Nodup:=by decide +kernel
def HQ:(["_law_field",SJ]:Us).Nodup:=by decide +kernel
inductive Aq(d:Ul)(H:Hp)(D:Fm)(σ:St)(H':Hp):Prop
 |mk(lh:_):σ=[some (.ref d),some (.ref lh),none,none,none,none,none,none]->OM H H'->H' lh=some (.lst (dq (((mH D).take 3).map aC)))->Aq d H D σ H'
inductive Ar(d:Ul)(H:Hp)(D:Fm)(σ:St)(H':Hp):Prop
 |mk(lh:_):σ=[some (.ref d),some (.ref lh),none,none,none,none,none,none]->OM H H'->H lh=none->H' lh=some (.lst (dq (((mH D).take 5).map aC)))->Ar d H D σ H'
inductive As(d:Ul)(H:Hp)(D:Fm)(σ:St)(H':Hp):Prop
 |mk(lh:_):σ=[some (.ref d),some (.ref lh),none,none,none,none,none,none]->OM H H'->H' lh=some (.lst (dq ((mH D).map aC)))->As d H D σ H'
inductive Au(d:Ul)(H:Hp)(D:Fm)(σ:St)(H':Hp):Prop
 |mk(lh lr:_):σ=[some (.ref d),some (.ref lh),some (.ref lr),none,none,none,none,none]->OM H H'->H lr=none->H' lr=some (.lst (dq (i9 D [])))->Au d H D σ H'
def Av(F:O0 K "_law_text" "_law_text" iD f fd)(B:Bl mg)(B3:Ca mg)(DT:Fn P w K mg base "_law_deed_text" n [Sq,Si,Sk] (wo 4))(hn:1<=n):OQ P w K mg base bQ (n+1) f fd [Si] qd:=by
 have ZZ:=Pe
 walk_at "o"
 ·obtain⟨d,D,gt,kvs,lp,lm,lk,us,fn,rfl,hV,hD,q⟩:=h;have hu:=eo hr;have sz:(200000:Nat)<=sizeLine:=by decide
  refine⟨_,bN (Aq d H D) (bL (i:=1) Pe.nd (aP (aa (aH aR ai (aY eU (by rfl) B.str eE (aa (bx hu (pv 0) ai) ab))) (aa (aH aR ai (aY eU (by rfl) B.str eE (aa (bx hu (pv 0) ai) ab))) (aa (aH aR ai (aY eU (by rfl) B.str eE (aa (bx hu (pv 0) ai) ab))) ab)))))
   (bN (Ar d H D) (bL (i:=1) Pe.nd (aH dA (pv 1) (aP (aa (ci Lr Lw Lv eX ai (aa (aH dA (aP (aa ai ab)) (bx hu (pv 0) ai)) ab)) (aa (ci Lr Lw Lv eX ai (aa (aH dA (aP (aa ai ab)) (bx hu (pv 0) ai)) ab)) ab)))))
   (bN (As d H D) (aQ (ci KU KS KR bv (pv 1) (aa (ci Lr Lw Lv eX ai (aa (aH dA (aP (aa ai ab)) (fk (N':=[Tk,SW,Si]) (ix:=[none,none,some 0]) (sc0:=ak iD) (N:=[Si,TJ,S3,SW,Sk,Sq,TB,SD]) rfl zk (gX rfl B3.enumerate (aa (bx hu (pv 0) ai) ab))
     (fun C' cl s H fp=>dz (K:=K) (n:=2) rfl rfl (aA (cq (i:=0) DR) (aA (cq (i:=1) DR) br))) (fun _ _ _ _ _=>jx (aq aX (pv 0) (bx hu (pv 2) ai))) (fun C' cl s H fp=>pv 1))) ab)) ab)))
   (bN (Au d H D) (bL (i:=2) Pe.nd (aP (aa (ci Lr Lw Lv eX ai (aa (fk (N':=["_law_part"]) (ix:=[none]) (sc0:=ak iD) (N:=[Si,TJ,S3,SW,Sk,Sq,TB,SD]) rfl zk (cm (pv 1))
     (fun C' cl s H fp=>cq (i:=0) HP) (fun _ _ _ _ _=>dQ) (fun C' cl s H fp=>aH aR (pv 0) ai)) ab)) ab)))
   (ac (cc g_ rfl (cm (bx hu (pv 0) ai)) (cr rfl (aA (cq (i:=3) Pe.nd) (aA (cq (i:=4) Pe.nd) (aA (cq (i:=5) Pe.nd) br))))
    (ac (bL (i:=6) Pe.nd (ci Lr Lw Lv eX ai (aa (fk (N':=["_law_field",SJ]) (ix:=[none,none]) (sc0:=ak iD) (N:=[Si,TJ,S3,SW,Sk,Sq,TB,SD]) rfl zk (cm (pv 4))
      (fun C' cl s H fp=>dz (K:=K) (n:=2) rfl rfl (aA (cq (i:=0) HQ) (aA (cq (i:=1) HQ) br))) (fun _ _ _ _ _=>dQ) (fun C' cl s H fp=>aH aR (aH aR (pv 0) ai) (pv 1))) ab)))
    (ac (bL (i:=7) Pe.nd (aH dA (aH dA (aP (aa ai (aa (pv 3) (aa ai ab)))) (fk (N':=["_law_part"]) (ix:=[none]) (sc0:=ak iD) (N:=[Si,TJ,S3,SW,Sk,Sq,TB,SD]) rfl zk (cm (aP (aa (pv 6) ab)))
      (fun C' cl s H fp=>cq (i:=0) HP) (fun _ _ _ _ _=>jx (aq iP (pv 0) ai)) (fun C' cl s H fp=>pv 0))) (aP (aa ai ab))))
    (ag (aQ (ci KU KS KR bv (pv 2) (aa (ci Lr Lw Lv eX ai (aa (aH dA (pv 7) (aP (aa (ax DT hr rfl (aa (pv 5) (aa (pv 0) (aa (pv 4) ab)))) ab))) ab)) ab)))))))
   (ag (aw (ci Lr Lw Lv eX ai (aa (pv 2) ab)))))))),?_⟩
  have U3:=hD.c64;have hw24:=hD.w24;have Xf:=hD.d8;refine⟨?_,?_⟩;rotate_left
  ·have z1:=qb (n:=D.width) zo;have z2:=qb (n:=D.cells) zo;have z3:=qb (n:=D.depth) zo;have y1:("word ":Str).length=5/\("cells ":Str).length=6/\("depth ":Str).length=6:=by decide +kernel
   refine⟨_,rfl,d,_,rfl,bA hV.ed hV.v1,_,rfl,ic zo,_,_,rfl,rfl,zo,?_⟩;refine⟨_,rfl,d,_,rfl,bA hV.ed hV.v2,_,rfl,ic zo,_,_,rfl,rfl,zo,?_⟩;refine⟨_,rfl,d,_,rfl,bA hV.ed hV.v3,_,rfl,ic zo,_,_,rfl,rfl,zo,?_⟩;refine⟨OT,fun lh nlh=>⟨lh,rfl,aj nlh,?_⟩⟩;rw[ae]
   congr 2
   have t1:=qc FP.1 rfl (toString (D.width:Int):Str);have t2:=qc FP.2.1 rfl (toString (D.cells:Int):Str);have t3:=qc FP.2.2 rfl (toString (D.depth:Int):Str);rw[FQ.1]at t1;rw[FQ.2.1]at t2;rw[FQ.2.2]at t3;rw[t1,t2,t3];rfl
  rintro σ H1 ⟨lh,rfl,s1,e1⟩;have hp4:=hD.p4;have X_:=hD.m3;have YG:∀z∈D.places++D.marks,Py z:=fun z hz=>.name (hD.nf z (by rcases La.mp hz with h|h<;>simp[h])).1;refine⟨?_,?_⟩;rotate_left
  ·have V1:=hV.same s1;have jb:∀(w:Str)(zs:Us),Py w->(∀z∈zs,Py z)->zs.length<=10->(((w::zs).map cp).map List.length).sum+((w::zs).map cp).length*[32].length<=100000:=by
    intro w zs hw hz hl;exact(rV (zs:=w::zs) (by simp;lia) (fun z VD=>by
     rcases KH.mp VD with rfl|h
     ·have:=hw.le;lia
     ·have:=(hz z h).le;lia)).1
   refine⟨_,rfl,?_⟩;refine⟨rfl,OT,fun l2 n2=>?_⟩;generalize zz:aM H1 l2 _=H2;have s2:=(nw n2 zz).1;have e2:H2 l2=some (.lst (ay [So])):=(nw n2 zz).2;clear zz;have V2:=V1.same s2;refine⟨_,rfl,d,_,rfl,bA V2.ed V2.v4,vZ e2 V2.ep (by simp;lia) fun l3 H3 s3 n3 e3=>?_⟩;have e3':H3 l3=some (.lst (dq (((So:Str)::D.places).map cp))):=by rw[lZ];exact e3
   refine⟨[32],l3,_,d_ V.str pN,rfl,OO.of e3',jb _ _ (.word zk) (fun z hz=>YG z (by simp[hz])) zo,?_⟩;refine⟨rfl,OT,fun l4 n4=>?_⟩;generalize zz:aM H3 l4 _=H4;have s4:=(nw n4 zz).1;have e4:H4 l4=some (.lst (ay [Ss])):=(nw n4 zz).2;clear zz;have V4:=(V2.same s3).same s4;refine⟨_,rfl,d,_,rfl,bA V4.ed V4.v5,vZ e4 V4.em (by simp;lia) fun l5 H5 s5 n5 e5=>?_⟩;have ZW:H5 l5=some (.lst (dq (((Ss:Str)::D.marks).map cp))):=by rw[lZ];exact e5
   refine⟨[32],l5,_,d_ V.str pN,rfl,OO.of ZW,jb _ _ (.word zk) (fun z hz=>YG z (by simp[hz])) zo,?_⟩;refine⟨OT,fun l6 n6=>?_⟩;have s6:=aj (o:=.lst (dq [aC ((So:Str)::D.places),aC ((Ss:Str)::D.marks)])) n6;have e6:(aM H5 l6 (.lst (dq [aC ((So:Str)::D.places),aC ((Ss:Str)::D.marks)]))) l6=some (.lst (dq [aC ((So:Str)::D.places),aC ((Ss:Str)::D.marks)])):=ae;have s16:=(((s2.trans s3).trans s4).trans s5).trans s6;refine⟨lh,l6,_,_,rfl,rfl,s16 _ _ e1,e6,by rw[da,da];simp[mH];lia,fun l7 n7=>?_⟩;refine⟨l7,rfl,(s1.trans s16).trans (aj n7),(s1.trans s16).free n7,?_⟩;rw[ae];rfl
  rintro σ H1 ⟨lh,rfl,s1,nlh,e1⟩;refine⟨?_,?_⟩;rotate_left
  ·have V1:=hV.same s1;refine⟨_,rfl,.inl ⟨rfl,_,OO.of e1⟩,?_⟩;refine⟨rfl,OT,fun l2 n2=>?_⟩;generalize zz:aM H1 l2 _=H2;have s2:=(nw n2 zz).1;have e2:H2 l2=some (.lst (ay [SS])):=(nw n2 zz).2;clear zz;have V2:=V1.same s2;refine⟨_,rfl,d,_,rfl,bA V2.ed V2.v5,lm,rfl,⟨_,OO.of V2.em⟩,?_⟩;refine kC (K:=K) (l:=lm) (xs:=ay D.marks) (fun i ys H'=>OM H2 H'/\ys=ay (Ao D.marks gt i)) ⟨OM.refl _,by cases gt<;>rfl⟩ (fun i ys H' hi⟨s',e'⟩=>⟨OO.of (s' _ _ V2.em),by
     rw[e',dm];have:(Ao D.marks gt i).length<=1:=by
      cases gt with
      |none=>exact Lh _
      |some g=>show(if g<i then _ else _:Us).length<=1;split<;>simp
     lia⟩) ?_ ?_
   ·rintro i x ys H3 T1 hx nT ⟨s3,rfl⟩;obtain⟨z,hz,rfl⟩:=wb hx;have MP:=(Kx.mp hx).1;have s4:=aj (o:=.tup [.int (i:Int),.str z]) nT;have V4:=(V2.same s3).same s4;refine⟨T1,_,rfl,ON.of ae,rfl,_,_,rfl,_,_,rfl,rfl,⟨rfl,trivial⟩,?_⟩;have Wp:Er (V.int (i:Int)) (gV gt)=true:=by cases gt<;>rfl
    refine⟨_,rfl,_,rfl,d,_,rfl,bA V4.ed V4.v6,Wp,_,rfl,ce (fun h=>?_) (fun h=>?_)⟩
    ·refine⟨_,rfl,Nx.mk MP ⟨s3.trans s4,?_⟩⟩;have h':decide (V.int (i:Nat)=gV gt)=true:=h;rw[og hz,f_ h',<-rT];rfl
    ·refine Nx.mk MP ⟨s3.trans s4,?_⟩;have h':¬decide (V.int (i:Nat)=gV gt)=true:=h;rw[og hz,e_ h',Lm]
   ·rintro ys H3 ⟨s3,rfl⟩ l4 n4;rw[dm,Ap hD.gb,<-hD.ga];generalize zz:aM H3 l4 _=H4;have s4:=(nw n4 zz).1;have e4:H4 l4=some (.lst (ay D.gates)):=(nw n4 zz).2;clear zz;have ZJ:D.gates.length<=1:=by rw[hD.ga];cases gt<;>simp[gL]
    have hgS:∀z∈D.gates,Py z:=by
     intro z hz;rw[hD.ga]at hz;cases US:gt with
     |none=>rw[US]at hz;cases hz
     |some g=>
      rw[US]at hz;have Xe:=hD.gb g US;rw[Lb.mp hz,KP,KF Xe];exact YG _ (K6 _ (Lo Xe))
    refine vZ ((s3.trans s4) _ _ e2) e4 (by simp;lia) fun l5 H5 s5 n5 e5=>?_;have ZW:H5 l5=some (.lst (dq (((SS:Str)::D.gates).map cp))):=by rw[lZ];exact e5
    refine⟨[32],l5,_,d_ V.str pN,rfl,OO.of ZW,(rV (zs:=(SS:Str)::D.gates) (by simp;lia) (fun z VD=>by
     rcases KH.mp VD with rfl|h
     ·decide +kernel
     ·have:=(hgS z h).le;lia)).1,?_⟩
    have s15:=((s2.trans s3).trans s4).trans s5;refine⟨lh,_,_,rfl,rfl,s15 _ _ e1,by rw[da];simp[mH];lia,lh,rfl,cj nlh (s1.trans s15),?_⟩;rw[ae];rfl
  rintro σ H1 ⟨lh,rfl,s1,e1⟩;have YS:∀g∈mH D,(aC g).length<=100:=by
   intro g hg;have hk:g.length<=10/\∀z∈g,Py z:=by
    have hgt1:D.gates.length<=1:=by rw[hD.ga];cases gt<;>simp[gL]
    have hgS:∀z∈D.gates,Py z:=by
     intro z hz;rw[hD.ga]at hz;cases US:gt with
     |none=>rw[US]at hz;cases hz
     |some g=>
      rw[US]at hz;have Xe:=hD.gb g US;rw[Lb.mp hz,KP,KF Xe];exact YG _ (K6 _ (Lo Xe))
    unfold mH at hg;simp only[KH,KY,j_]at hg;rcases hg with rfl|rfl|rfl|rfl|rfl|rfl
    ·refine⟨by simp,fun z hz=>?_⟩;simp only[KH,KY,j_]at hz;rcases hz with rfl|rfl
     ·exact .word zk
     ·exact .num zo
    ·refine⟨by simp,fun z hz=>?_⟩;simp only[KH,KY,j_]at hz;rcases hz with rfl|rfl
     ·exact .word zk
     ·exact .num zo
    ·refine⟨by simp,fun z hz=>?_⟩;simp only[KH,KY,j_]at hz;rcases hz with rfl|rfl
     ·exact .word zk
     ·exact .num zo
    ·refine⟨by simp;lia,fun z hz=>?_⟩;rcases KH.mp hz with rfl|h
     ·exact .word zk
     ·exact YG z (by simp[h])
    ·refine⟨by simp;lia,fun z hz=>?_⟩;rcases KH.mp hz with rfl|h
     ·exact .word zk
     ·exact YG z (by simp[h])
    ·refine⟨by simp;lia,fun z hz=>?_⟩;rcases KH.mp hz with rfl|h
     ·exact .word zk
     ·exact hgS z h
   have:=bO hk.2;lia
  refine⟨?_,?_⟩;rotate_left
  ·refine⟨rfl,_,rfl,lh,rfl,⟨_,OO.of e1⟩,?_⟩;refine eJ (K:=K) (a:=lh) (xs:=dq ((mH D).map aC)) (fun i ys H'=>H'=H1/\ys=dq (((mH D).take i).map fun g=>aC (g++[(";":Str)]))) ⟨rfl,rfl⟩ (fun i ys H' hi⟨a1,a2⟩=>by
     subst a1 a2;refine⟨OO.of e1,?_⟩;rw[da,Ky,KG];simp[mH];lia) ?_ ?_
   ·rintro i x ys H2 hx ⟨rfl,rfl⟩;obtain⟨g,hg,rfl⟩:∃g,(mH D)[i]?=some g/\x=.str (S (aC g)):=by
     unfold dq at hx;rw[KZ,KZ]at hx;cases e:(mH D)[i]? with
     |none=>rw[e]at hx;cases hx
     |some g=>rw[e]at hx;exact⟨g,rfl,(Lc hx).symm⟩
    have MP:=(Kx.mp hx).1;have Xe:=YS g (KQ hg);have ZG:g≠[]:=by
     have hm:=KQ hg;unfold mH at hm;simp only[KH,KY,j_]at hm;rcases hm with rfl|rfl|rfl|rfl|rfl|rfl<;>simp
    refine⟨trivial,eB ?_⟩;refine⟨_,rfl,_,_,rfl,d_ V.str fO.2.2.2.2.2.2,by rw[aN,aN];simp;lia,?_⟩;rw[bY];refine Nx.mk MP ⟨rfl,?_⟩;rw[Lj,hg,KJ];unfold dq;rw[KJ];have e9:aC (g++[(";":Str)])=aC g++[32,59]:=by
     rw[eM ZG (by simp),cZ];have:cp (";":Str)=[59]:=by decide +kernel
     rw[this]
    show _++[V.str (S (aC g++[32,59]))]=_++[V.str (S (aC (g++[(";":Str)])))];rw[e9]
   ·rintro ys H2 ⟨rfl,rfl⟩ l3 n3;have e6:(dq ((mH D).map aC)).length=(mH D).length:=by rw[da,Ky]
    rw[e6,K7];generalize zz:aM H2 l3 _=H3;have s3:=(nw n3 zz).1;have e3:H3 l3=some (.lst (dq ((mH D).map fun g=>aC (g++[(";":Str)])))):=(nw n3 zz).2;clear zz;refine⟨[32],l3,_,d_ V.str pN,rfl,OO.of e3,?_,OT,fun lr nlr=>?_⟩
    ·have:=iJ 110 ((mH D).map fun g=>aC (g++[(";":Str)])) (fun t ht=>by
      obtain⟨g,hg,rfl⟩:=K4.mp ht;have h1:=YS g hg;have ZG:g≠[]:=by
       unfold mH at hg;simp only[KH,KY,j_]at hg;rcases hg with rfl|rfl|rfl|rfl|rfl|rfl<;>simp
      rw[eM ZG (by simp),cZ];have:cp (";":Str)=[59]:=by decide +kernel
      rw[this];simp;lia)
     have h6:((mH D).map fun g=>aC (g++[(";":Str)])).length=6:=rfl;rw[h6]at this⊢;simp only[KC,K3];lia
    ·have s4:=aj (o:=.lst [V.str (S (aC (fL D)))]) nlr;have eh:=CP D;refine⟨lh,lr,rfl,?_,?_,?_⟩
     ·rw[eh];exact(s1.trans s3).trans s4
     ·exact(s1.trans s3).free nlr
     ·rw[ae,eh];rfl
  rintro σ H1 ⟨lh,lr,rfl,s1,nlr,e1⟩;obtain⟨mc,mk,hMd,hKl⟩:=hD.kl;have hmd:=nU hMd;have V1:=hV.same s1;have hFl:=mD hD;refine⟨_,rfl,d,_,rfl,bA V1.ed V1.v7,lk,rfl,⟨_,OO.of V1.ek⟩,?_⟩;refine dN (K:=K) (a:=lk) (xs:=us) (fun i σ H'=>∃v3 v4 v5 v6 v7:Option V,σ=[some (.ref d),some (.ref lh),some (.ref lr),v3,v4,v5,v6,v7]/\OM H H'/\H' lr=some (.lst (dq (i9 D (D.kinds.take i))))) ⟨_,_,_,_,_,rfl,s1,e1⟩ (fun i σ H' _⟨_,_,_,_,_,_,s',_⟩=>OO.of (s' _ _ hV.ek)) ?_ ?_
  ·rintro i y σ H2 hy ⟨v3,v4,v5,v6,v7,rfl,s2,e2⟩;obtain⟨x,hx,t,lf,b,rfl,Vt,ht,⟨fu,U',ZK⟩,hb⟩:=dB hV.ks hy;have X3:=KQ hx;have ZD:=(Kx.mp hx).1;have G:=wr hD X3;have UK:=uM hD X3;have hf3:=pZ hD X3;have hK:=hKl x X3;refine⟨t,_,rfl,ON.of (s2 _ _ ht),rfl,_,_,rfl,_,_,rfl,_,_,rfl,rfl,?_⟩;refine⟨rfl,_,rfl,lf,rfl,⟨_,OO.of (s2 _ _ U')⟩,?_⟩;have XF:∀f∈x.fs,f.1.length<=8/\f.2.length<=8:=fun f hf=>CO f (G.f f hf).1 (UK f hf);have Vc:=uS ZK;refine eJ (K:=K) (a:=lf) (xs:=fu) (fun j ys H'=>H'=H2/\ys=dq (mX (x.fs.take j))) ⟨rfl,rfl⟩ (fun j ys H' hj⟨a1,a2⟩=>by
     subst a1 a2;refine⟨OO.of (s2 _ _ U'),?_⟩;rw[da];unfold mX;rw[Ky,KG];lia) ?_ ?_
   ·rintro j u ys H3 hu ⟨rfl,rfl⟩;obtain⟨f,hf,pf,rfl,U8⟩:=dB ZK hu;have Ws:=(Kx.mp hu).1;obtain⟨l1,l2⟩:=XF f (KQ hf);obtain⟨E1,E2⟩:=JP f;have V_:(" ":Str).length=1:=by decide +kernel
    refine⟨pf,_,rfl,ON.of (s2 _ _ U8),rfl,_,_,rfl,_,_,rfl,rfl,trivial,eB ?_⟩;refine⟨_,rfl,_,_,rfl,rfl,zo,_,rfl,S (cp f.1++[32]),f.2,d_ V.str E1,rfl,by rw[aN,Kz,qa];simp;lia,?_⟩;rw[E2];refine Nx.mk Ws ⟨rfl,?_⟩;rw[Lj,hf];unfold mX dq;simp
   ·rintro ys H3 ⟨rfl,rfl⟩ l3 n3;rw[Vc,K7];generalize zz:aM H3 l3 _=H4;have s3:=(nw n3 zz).1;have e3:H4 l3=some (.lst (dq (mX x.fs))):=(nw n3 zz).2;clear zz;refine⟨[32,44,32],l3,_,d_ V.str JN,rfl,OO.of e3,?_,?_⟩
    ·have:=iJ 17 (mX x.fs) (fun t ht=>by
      obtain⟨f,hf,rfl⟩:=K4.mp ht;obtain⟨l1,l2⟩:=XF f hf;rw[Kz,KC,qa,qa];lia)
     have hfc:(mX x.fs).length=x.fs.length:=by unfold mX;rw[Ky]
     rw[hfc]at this⊢;simp only[KC,K3];lia
    rw[Am];refine⟨_,rfl,OT,fun l4 n4=>?_⟩;have s4:=aj (o:=.lst [V.str SF,.str x.name,.str "("]) n4;have e4:(aM H4 l4 (.lst [V.str SF,.str x.name,.str "("])) l4=some (.lst (dq [cp SF,cp x.name,cp "("])):=by
     have:=lZ [(SF:Str),x.name,("(":Str)];rw[show dq [cp SF,cp x.name,cp "("]=ay [(SF:Str),x.name,("(":Str)]from this];exact ae
    generalize aM H4 l4 (.lst [V.str SF,.str x.name,.str "("])=H5 at*;refine⟨_,rfl,OT,fun l5 n5=>?_⟩;generalize zz:aM H5 l5 _=H6;have⟨s5,e5⟩:=nw n5 zz;clear zz;refine⟨l5,rfl,⟨_,OO.of e5⟩,?_⟩;refine eJ (K:=K) (a:=l5) (xs:=[V.str (S (aC (dZ x.fs)))]) (fun j ys H'=>H'=H6/\ys=if j=0 then []else dq ((so x.fs).map aC)) ⟨rfl,rfl⟩ (fun j ys H' hj⟨a1,a2⟩=>by
      subst a1 a2;refine⟨OO.of e5,?_⟩;split
      ·exact Lh _
      ·rw[da,Ky];unfold so;split<;>simp<;>lia) ?_ ?_
    ·rintro j u ys H7 hu ⟨rfl,rfl⟩;have hj0:j=0:=by
      have:=(Kx.mp hu).1;simpa using this
     subst hj0;obtain rfl:V.str (S (aC (dZ x.fs)))=u:=by simpa using hu
     refine⟨trivial,?_⟩;refine⟨_,rfl,rfl,_,rfl,ce (fun h=>?_) (fun h=>?_)⟩
     ·refine⟨_,rfl,Nx.mk (by simp) ⟨rfl,?_⟩⟩;have MM:¬x.fs=[]:=fun e=>by
       have:=(oe x.fs).mpr e;rw[this]at h;revert h;decide +kernel
      unfold so;rw[e_ MM];rfl
     ·refine Nx.mk (by simp) ⟨rfl,?_⟩;have he:x.fs=[]:=by
       by_cases e:x.fs=[]
       ·exact e
       ·exfalso;apply h;have:V.str (S (aC (dZ x.fs)))≠V.str "":=fun z=>e ((oe x.fs).mp (V.str.inj z));simpa using this
      unfold so;rw[f_ he];rfl
    ·rintro ys H7 ⟨rfl,rfl⟩ l8 n8;rw[e_ (by simp)];generalize zz:aM H7 l8 _=H8;have s8:=(nw n8 zz).1;have e8:H8 l8=some (.lst (dq ((so x.fs).map aC))):=(nw n8 zz).2;clear zz;have hi1:((so x.fs).map aC).length<=1:=by
      rw[Ky];unfold so;split<;>simp
     refine An ((s5.trans s8) _ _ e4) e8 (by simp only[KC,K3];lia) fun l9 H9 s9 n9 e9=>?_;refine⟨OT,fun l10 n10=>?_⟩;have Vz:=aj (o:=.lst [V.str ")"]) n10;have e10:(aM H9 l10 (.lst [V.str ")"])) l10=some (.lst (dq [cp ")"])):=by
      rw[show dq [cp ")"]=ay [(")":Str)]from lZ [(")":Str)]];exact ae
     generalize aM H9 l10 (.lst [V.str ")"])=Y6 at*;refine An (Vz _ _ e9) e10 (by simp only[Kz,KC,K3];lia) fun l11 Y5 U6 n11 e11=>?_;have WF:=(((((s3.trans s4).trans s5).trans s8).trans s9).trans Vz).trans U6;have Vk:=s2.trans WF;have e2':=WF _ _ e2;refine⟨_,rfl,.inl ⟨rfl,_,OO.of e2'⟩,?_⟩;refine⟨rfl,_,rfl,_,rfl,_,rfl,_,rfl,b,d,lf,D.width,D.places,D.marks,x.fs,x.dd,mk-1,rfl,hb.kt (av Vk),⟨⟨_,_,_,Vk _ _ hV.ed,hV.v1,hV.v4,hV.v5,Vk _ _ hV.ep,Vk _ _ hV.em⟩,QE.same ⟨fu,U',ZK⟩ Vk,hD.w24,G⟩,zo,zd,CC hK.dd (show mc<=3 by lia),fun H12 MO=>?_⟩;rw[<-hK.bd];refine⟨OT,fun l13 n13=>?_⟩;generalize zz:aM H12 l13 _=H13;have U5:=(nw n13 zz).1;have e13:H13 l13=some (.lst (dq [aC (dk x.bd)])):=(nw n13 zz).2;clear zz;refine An ((MO.trans U5) _ _ e11) e13 (by simp only[Kz,KC,K3];lia) fun l14 H14 s14 n14 e14=>?_;have Yd:(aC (dk x.bd)).length<=9*(dk x.bd).length:=bO fun z hz=>p7 hD X3 z (K6 _ hz);have hbl2:(dk x.bd).length<=(dW D).length:=by
      have h1:=ja X3;have h2:(dk x.bd).length<=(cA x).length:=by unfold cA;rw[Kz];lia
      unfold dW;rw[Kz];lia
     have hil2:∀t∈(so x.fs).map aC,t.length<=200:=by
      intro t ht;obtain⟨g,hg,rfl⟩:=K4.mp ht;unfold so at hg;split at hg
      ·cases hg
      ·rw[Lb.mp hg];have:=bO (zs:=dZ x.fs) (Ae fun f hf=>⟨(G.f f hf).1,UK f hf⟩);rw[ji]at this;lia
     have hnl:(cp x.name).length<=8:=(hD.kf x X3).1.len;refine⟨[32],l14,_,d_ V.str pN,rfl,OO.of e14,?_,?_⟩
     ·have UO:=iJ 14000 ([cp SF,cp x.name,cp "("]++(so x.fs).map aC++[cp ")"]++[aC (dk x.bd)]) (fun t ht=>by
       simp only[La,KH,KY,j_]at ht;rcases ht with(((rfl|rfl|rfl)|ht)|rfl)|rfl
       ·decide +kernel
       ·lia
       ·decide +kernel
       ·have:=hil2 t ht;lia
       ·decide +kernel
       ·lia)
      have MD:([cp SF,cp x.name,cp "("]++(so x.fs).map aC++[cp ")"]++[aC (dk x.bd)]).length<=6:=by
       simp only[Kz,KC,K3];lia
      have h6:=O_ 14000 MD;generalize ([cp SF,cp x.name,cp "("]++(so x.fs).map aC++[cp ")"]++[aC (dk x.bd)])=ts at*;simp only[KC,K3];lia
     rw[CQ x];have XR:=((WF.trans MO).trans U5).trans s14;refine⟨lr,_,_,rfl,rfl,XR _ _ e2,?_,?_⟩
     ·rw[da];unfold i9;rw[KC,Ky,KG];lia
     refine⟨_,_,_,_,_,rfl,cj nlr (s2.trans XR),?_⟩;rw[ae]
     congr 2
     unfold i9 dq;rw[Lj,hx];simp
  ·rintro σ H2 ⟨v3,v4,v5,v6,v7,rfl,s2,e2⟩;rw[uS hV.ks,K7]at e2;refine⟨rfl,_,rfl,[10],lr,i9 D D.kinds,d_ V.str Jy,rfl,OO.of e2,?_,q _ s2⟩;have hh:=bO (wt hD);have h5:=xp (zs:=D.kinds) fun x hx=>by
    have:=bO (p7 hD hx);lia
   unfold i9;rw[K2,Mv,KC,Ky];simp only[KC,K3];have h6:(fL D).length+(D.kinds.flatMap cA).length<=1500:=by
    unfold dW at hFl;rw[Kz]at hFl;exact hFl
   lia
end
abbrev Sf:=Bool->Nat->Nat
abbrev Pa:=List (Tt×Bool)
def dL:Tt->Bool
 |.mk _ _=>true
 |_=>false
def nu(ops:Ut)(t:Tt):Nat:=if(jR t).1=true then ops.getD (jR t).2 0 else(jR t).2
def j9(T:Nat):Tt->Nat
 |.top _ _=>T
 |_=>1
def gS(ops:Ut)(f:Sf)(t:Tt):Nat:=f (dL t) (nu ops t)
def Ps(T:Nat)(ops:Ut)(f:Sf)(t:Tt):Bool:=decide (j9 T t<=gS ops f t)
def du(T:Nat)(ops:Ut)(f:Sf)(t:Tt):Sf:=fun b i=>if b=dL t/\i=nu ops t then max (j9 T t) (f b i)else f b i
def letA(T:Nat)(ops:Ut)(f:Sf)(p:Pa):Sf:=p.foldl (fun f x=>if x.2=true then du T ops f x.1 else f) f
def sK(T:Nat)(ops:Ut)(f:Sf)(p:Pa):Bool:=p.all fun x=>Ps T ops f x.1==x.2
def fB:Dd->List Pa
 |.leaf _ _=>[[]]
 |.ite t y n=>(fB y).map ((t,true)::·)++(fB n).map ((t,false)::·)
def qe(T:Nat)(ops:Ut)(f:Sf):Dd->Nat
 |.leaf _ _=>0
 |.ite t y n=>if Ps T ops f t=true then qe T ops f y else(fB y).length+qe T ops f n
def DS(f g:Sf):Prop:=∀b i,f b i<=g b i
def sr(h:DS f g)(e:Ps T ops f t=true):Ps T ops g t=true:=by
 unfold Ps at*;exact a_ (Ll (h_ e) (h _ _))
def CU:DS f (du T ops f t):=by
 intro b i;unfold du;split<;>lia
def ww:∀(p:Pa)(f:Sf),DS f (letA T ops f p)
 |[],f=>fun _ _=>KO _
 |x::p,f=>by
  intro b i;unfold letA;rw[L_];refine Ll ?_ (ww p _ b i);split
  ·exact CU b i
  ·exact KO _
def CV(h:DS f g)(e:Ps T ops g t=true):DS (du T ops f t) g:=by
 intro b i;unfold du;split
 ·rename_i hc;have h1:j9 T t<=g (dL t) (nu ops t):=h_ e;rw[hc.1,hc.2];have:=h (dL t) (nu ops t);lia
 ·exact h b i
def wx:∀(p:Pa)(f:Sf),DS f g->(∀x∈p,x.2=true->Ps T ops g x.1=true)->DS (letA T ops f p) g
 |[],f,h,_=>h
 |x::p,f,h,e=>by
  show DS (letA T ops (if x.2=true then du T ops f x.1 else f) p) g;refine wx p _ ?_ fun y hy=>e y (KM _ hy);split
  ·rename_i hx;exact CV h (e x KB hx)
  ·exact h
def CY:Ps T ops (du T ops f t) t=true:=by
 unfold Ps gS du;rw[f_ ⟨rfl,rfl⟩];exact a_ (Nat.le_max_left _ _)
def su:∀(p:Pa)(f:Sf)(x:Tt×Bool),x∈p->x.2=true->Ps T ops (letA T ops f p) x.1=true
 |y::p,f,x,hx,e=>by
  show Ps T ops (letA T ops (if y.2=true then du T ops f y.1 else f) p) x.1=true;rcases KH.mp hx with rfl|hx
  ·rw[f_ e];exact sr (ww p _) CY
  ·exact su p _ x hx e
def FR(h:sK T ops g p=true):∀x∈p,Ps T ops g x.1=x.2:=by
 intro x hx;have:=Li.mp h x hx;simpa using this
def CZ(h:sK T ops g p=true):sK T ops (letA T ops (fun _ _=>0) p) p=true:=by
 have h:=FR h;refine Li.mpr fun x hx=>?_;rw[beq_iff_eq];cases e:x.2 with
 |true=>exact su p _ x hx e
 |false=>
  refine Mb.mpr fun hh=>?_;have:=sr (wx (g:=g) p _ (fun _ _=>Lh _) fun y hy ey=>(h y hy).trans ey) hh;rw[h x hx,e]at this;cases this
def Aw:∀d:Dd,qe T ops f d<(fB d).length
 |.leaf _ _=>by simp[qe,fB]
 |.ite t y n=>by
  have h1:=Aw (T:=T) (ops:=ops) (f:=f) y;have h2:=Aw (T:=T) (ops:=ops) (f:=f) n;show(if Ps T ops f t=true then qe T ops f y else(fB y).length+qe T ops f n)<((fB y).map _++(fB n).map _).length;rw[Kz,Ky,Ky];split<;>lia
def mI:∀(d:Dd)(i:Nat)(p:Pa),(fB d)[i]?=some p->(qe T ops f d=i↔sK T ops f p=true)
 |.leaf _ _,i,p,h=>by
  unfold fB at h;cases i with
  |zero=>
   have:p=[]:=by simpa using h.symm
   subst this;simp[qe,sK]
  |succ i=>simp at h
 |.ite t y n,i,p,h=>by
  unfold fB at h;have l1:=Aw (T:=T) (ops:=ops) (f:=f) y;by_cases hi:i<(fB y).length
  ·rw[Ma (by rw[Ky];exact hi),KZ]at h;cases e:(fB y)[i]? with
   |none=>rw[e]at h;cases h
   |some q=>
    rw[e]at h;have hp:(t,true)::q=p:=Lc h;subst hp;have ih:=mI (T:=T) (ops:=ops) (f:=f) y i q e;unfold qe sK;rw[RO];cases ht:Ps T ops f t with
    |true=>
     simp only[J_,R0,Bool.true_and];exact ih
    |false=>simp;lia
  ·rw[L0 (by rw[Ky];lia),KZ,Ky]at h;cases e:(fB n)[i-(fB y).length]? with
   |none=>rw[e]at h;cases h
   |some q=>
    rw[e]at h;have hp:(t,false)::q=p:=Lc h;subst hp;have ih:=mI (T:=T) (ops:=ops) (f:=f) n _ q e;unfold qe sK;rw[RO];cases ht:Ps T ops f t with
    |true=>simp;lia
    |false=>
     simp only[Bool.false_eq_true,if_false,R0,Bool.true_and];refine Iff.trans ?_ ih;lia
def mY(Pn M:Nat)(ops:Ut)(t:Tt):Prop:=nu ops t<if dL t=true then M else Pn
def DN(Pn M:Nat)(ops:Ut):Dd->Prop
 |.leaf _ _=>True
 |.ite t y n=>mY Pn M ops t/\DN Pn M ops y/\DN Pn M ops n
def JQ(Pn M:Nat)(f g:Sf):Prop:=(∀i<Pn,f false i=g false i)/\∀i<M,f true i=g true i
def FT(h:JQ Pn M f g)(n:mY Pn M ops t):Ps T ops f t=Ps T ops g t:=by
 unfold Ps gS;unfold mY at n;cases e:dL t with
 |true=>rw[e]at n;rw[h.2 _ n]
 |false=>rw[e]at n;rw[h.1 _ n]
def wy(h:JQ Pn M f g):∀d:Dd,DN Pn M ops d->qe T ops f d=qe T ops g d
 |.leaf _ _,_=>rfl
 |.ite t y n,hd=>by
  unfold qe;rw[FT h hd.1,wy h y hd.2.1,wy h n hd.2.2]
def P1(T:Nat)(f:Sf):Prop:=(∀i,f false i=0\/f false i=1\/f false i=T)/\∀i,f true i=0\/f true i=1
def P1.let(hT:1<=T)(h:P1 T f):P1 T (du T ops f t):=by
 unfold du;cases t with
 |top b n=>
  refine⟨fun i=>?_,fun i=>?_⟩
  ·have:=h.1 i;dsimp only;split
   ·simp only[j9];lia
   ·exact this
  ·dsimp only;rw[e_ (by simp[dL])];exact h.2 i
 |pl b n=>
  refine⟨fun i=>?_,fun i=>?_⟩
  ·have:=h.1 i;dsimp only;split
   ·simp only[j9];lia
   ·exact this
  ·dsimp only;rw[e_ (by simp[dL])];exact h.2 i
 |mk b n=>
  refine⟨fun i=>?_,fun i=>?_⟩
  ·dsimp only;rw[e_ (by simp[dL])];exact h.1 i
  ·have:=h.2 i;dsimp only;split
   ·simp only[j9];lia
   ·exact this
def P1.letA(hT:1<=T):∀(p:Pa)(f:Sf),P1 T f->P1 T (letA T ops f p)
 |[],f,h=>h
 |x::p,f,h=>by
  show P1 T (L3.letA T ops (if x.2=true then du T ops f x.1 else f) p);refine P1.letA hT p _ ?_;split
  ·exact h.let hT
  ·exact h
def P1.zero:P1 T (fun _ _=>0):=⟨fun _=>.inl rfl,fun _=>.inl rfl⟩
def fl(f:Sf)(b:Bool)(n:Nat):Ut:=(List.range n).map (f b)
def dX:(fl f b n).length=n:=by unfold fl;simp
def sw(h:i<n):(fl f b n)[i]?=some (f b i):=by unfold fl;rw[KZ,List.getElem?_range h];rfl
def Ax(h:i<n)(e:∀j,j≠i->g b j=f b j):(fl f b n).set i (g b i)=fl g b n:=by
 refine RV fun j=>?_;rw[List.getElem?_set,dX];by_cases hj:j<n
 ·rw[sw (f:=g) hj];by_cases hij:i=j
  ·subst hij;rw[f_ rfl,f_ h]
  ·rw[e_ hij,sw hj,e j fun z=>hij z.symm]
 ·rw[N_ (l:=fl g b n) (by rw[dX];lia)];by_cases hij:i=j
  ·lia
  ·rw[e_ hij,N_ (by rw[dX];lia)]
def qf(e:∀j,g b j=f b j):fl f b n=fl g b n:=by unfold fl;exact E_ fun j _=>(e j).symm
def sf(pl mk:Ut):Sf:=fun b i=>if b=true then mk.getD i 0 else pl.getD i 0
def DU:JQ Pn M f (sf (fl f false Pn) (fl f true M)):=by
 refine⟨fun i hi=>?_,fun i hi=>?_⟩
 ·show _=(fl f false Pn).getD i 0;rw[KP,sw hi];rfl
 ·show _=(fl f true M).getD i 0;rw[KP,sw hi];rfl
def mJ(ws:Ut):Nat->Nat->Ut
 |0,_=>[]
 |k+1,n=>ws.getD (n%ws.length) 0::mJ ws k (n / ws.length)
def fG(ws:Ut)(k:Nat):List (Ut):=(List.range (ws.length^k)).map (mJ ws k)
variable{ws:Ut}
def mK(hw:ws≠[]):∀(r:Ut),(∀w∈r,w∈ws)->r∈fG ws r.length
 |[],_=>by unfold fG;simp[mJ]
 |a::r,h=>by
  have ih:=mK hw r fun w hw=>h w (KM _ hw);unfold fG at*;obtain⟨n,hn,e⟩:=K4.mp ih;have hn:=LG.mp hn;obtain⟨j,hj,ej⟩:=List.mem_iff_getElem.mp (h a KB);refine K4.mpr ⟨j+ws.length*n,LG.mpr ?_,?_⟩
  ·rw[KC,Mm];have:ws.length*(n+1)<=ws.length*ws.length^r.length:=Nat.mul_le_mul_left _ hn;rw[Nat.mul_comm (ws.length^r.length)];rw[Nat.mul_add,Nat.mul_one]at this;lia
  ·show ws.getD ((j+ws.length*n)%ws.length) 0::mJ ws r.length ((j+ws.length*n) / ws.length)=_;rw[Nat.add_mul_mod_self_left,Nat.mod_eq_of_lt hj,Nat.add_mul_div_left _ _ (by lia),Nat.div_eq_of_lt hj,RX,e,KP,KF hj,<-ej];rfl
def wz(hw:ws≠[]):∀(k n:Nat),(mJ ws k n).length=k/\∀w∈mJ ws k n,w∈ws
 |0,n=>⟨rfl,fun w h=>by cases h⟩
 |k+1,n=>by
  obtain⟨h1,h2⟩:=wz hw k (n / ws.length);refine⟨by simp[mJ,h1],fun w h=>?_⟩;rcases KH.mp h with rfl|h
  ·have:n%ws.length<ws.length:=Mx _ (LV.mpr hw);rw[KP,KF this];exact Lo this
  ·exact h2 w h
abbrev Du:=Nat×Ut×Ut
def cL(T:Nat)(ops:Ut)(p:Pa):Sf:=letA T ops (fun _ _=>0) p
def DV(T:Nat)(ops:Ut)(Pn M j:Nat)(p:Pa):List Du:=if sK T ops (cL T ops p) p=true then [(j,fl (cL T ops p) false Pn,fl (cL T ops p) true M)]else []
def mL(T:Nat)(ops:Ut)(Pn M:Nat)(d:Dd)(i:Nat):List Du:=(List.range i).flatMap fun j=>DV T ops Pn M j ((fB d).getD j [])
def oh(h:(fB d)[i]?=some p):mL T ops Pn M d (i+1)=mL T ops Pn M d i++DV T ops Pn M i p:=by
 unfold mL;rw[Mo,RJ,LZ,List.flatMap_nil,Lm,KP,h];rfl
def sy:(mL T ops Pn M d i).length<=i:=by
 unfold mL;induction i with
 |zero=>simp
 |succ i ih=>
  rw[Mo,RJ,Kz];have:(DV T ops Pn M i ((fB d).getD i [])).length<=1:=by unfold DV;split<;>simp
  simp only[LZ,List.flatMap_nil,Lm];lia
def C0(hT:1<=T)(hd:DN Pn M ops d)(hp:(fB d)[i]?=some p){all:List (Ut×Ut)}(hc:∀pl mk:Ut,pl.length=Pn->(∀w∈pl,w=0\/w=1\/w=T)->mk.length=M->(∀w∈mk,w=0\/w=1)->(pl,mk)∈all):
  (i∈all.map fun s=>qe T ops (sf s.1 s.2) d)↔sK T ops (cL T ops p) p=true:=by
 constructor
 ·intro h;obtain⟨s,_,e⟩:=K4.mp h;exact CZ ((mI d i p hp).mp e)
 ·intro h;have hi:=P1.letA (ops:=ops) hT p _ P1.zero;refine K4.mpr ⟨(fl (cL T ops p) false Pn,fl (cL T ops p) true M),hc _ _ dX ?_ dX ?_,?_⟩
  ·intro w hw;obtain⟨j,_,rfl⟩:=K4.mp hw;exact hi.1 j
  ·intro w hw;obtain⟨j,_,rfl⟩:=K4.mp hw;exact hi.2 j
  ·dsimp only;rw[<-wy DU d hd];exact(mI d i p hp).mpr h
def FU(hd:DN Pn M ops d)(hp:(fB d)[i]?=some p)(h:sK T ops (cL T ops p) p=true):qe T ops (sf (fl (cL T ops p) false Pn) (fl (cL T ops p) true M)) d=i:=by
 rw[<-wy DU d hd];exact(mI d i p hp).mpr h
def C1{x:Du}(h:x∈mL T ops Pn M d i)(hi:i<=(fB d).length):∃p,(fB d)[x.1]?=some p/\sK T ops (cL T ops p) p=true/\x.2.1=fl (cL T ops p) false Pn/\x.2.2=fl (cL T ops p) true M:=by
 unfold mL at h;obtain⟨j,hj,hx⟩:=Mu.mp h;have hj:=LG.mp hj;have Ws:j<(fB d).length:=by lia
 rw[KP,KF Ws]at hx;unfold DV at hx;split at hx
 ·rename_i hl;rw[Lb.mp hx];exact⟨_,KF Ws,hl,rfl,rfl⟩
 ·cases hx
def gl:Dd->Nat
 |.leaf _ _=>0
 |.ite _ y n=>max (gl y) (gl n)+1
def fP:∀d:Dd,(fB d).length<=2^gl d
 |.leaf _ _=>by simp[fB,gl]
 |.ite t y n=>by
  have h1:=fP y;have h2:=fP n;unfold fB gl;rw[Kz,Ky,Ky,Mm];have h3:=K0 (show 0<2 by decide) (Nat.le_max_left (gl y) (gl n));have h4:=K0 (show 0<2 by decide) (Nat.le_max_right (gl y) (gl n));lia
def mM:∀(d:Dd)(p:Pa),p∈fB d->p.length<=gl d
 |.leaf _ _,p,h=>by
  unfold fB at h;rw[Lb.mp h];exact Lh _
 |.ite t y n,p,h=>by
  unfold fB at h;unfold gl;rcases La.mp h with h|h
  ·obtain⟨q,hq,rfl⟩:=K4.mp h;have:=mM y q hq;rw[KC];lia
  ·obtain⟨q,hq,rfl⟩:=K4.mp h;have:=mM n q hq;rw[KC];lia
end L3
namespace L2
open PySem PySem.Spec PyProof.Rows
structure Qk(K:ZF)(x qual:Str)(st:Stmt)(ds:Array Uk)(f:Ul)(fd:Ur):Prop where
 ex:∃(oc:Uk)(od:Option Ul)(kV doc pm:Uk)(an:Option Ul)(MN ct:Uk)(UN:Array (Option Uk))(d:Ul)(o:Obj)(n:Nat),
  fd=PySem.W.fnOf x qual (dv st) (cN st) (ak st) (.ref d) kV doc pm an MN ct/\K.lookup f=some ⟨oc,od,.func fd,UN⟩/\PySem.W.codeIn K MN qual=true/\K.lookup d=some o/\o.data=.seq ds n
 kp:PySem.W.keepIn K (.ref f)=true
def Qk.ok{P:Uo}{w:Up}{K:ZF}{mg:Str->Option Uk}{base:Heap}{x qual:Str}{st:Stmt}{ds:Array Uk}{f:Ul}{fd:Ur}{N ps:Us}{k:Nat}{sp:Sp}(F:Qk K x qual st ds f fd)(S:az N ps (ak st))(len:∀vs H Q E,sp vs H Q E->vs.length=ps.length)
  (Vm:∀(MN:Uk)(A:Uq)(outer:List Env)(s:Um)(H:Hp)(vs:Uv)(Q:VK)(E:XK),OU k (A.deeper (envOfC qual (ak st) s.heap.objs.size f MN))->sp vs H Q E->
   ∃t,Qx (sU bQ P w K mg base N qual (ak st) f MN A outer s H E).nox (cN st) t/\t {nx:=fun _ H'=>Q .non H',rt:=Q} (start N vs) H):OQ P w K mg base bQ (k+1) f fd ps sp:=by
 obtain⟨oc,od,kV,doc,pm,an,MN,ct,UN,d,o,n,rfl,lk,VH,_⟩:=F.ex;refine Ds lk VH S len fun A outer s H vs Q E hr V_=>?_;obtain⟨t,h,q⟩:=Vm MN A outer s H vs Q E hr V_;exact⟨t,h.nox,q⟩
end L2
namespace L3
open PySem L2
abbrev Ay:Stmt:=top 7
def oj(D:Fm)(n:Nat)(st:Str):Nat:=if st=Sn then D.places.length else if st=Su then D.marks.length else if st="number" then 2^D.width else n+1
inductive uT(vs:Uv)(H:Hp)(Q:VK)(Z3:XK):Prop
 |mk(i w:Nat):vs=[.int i,.int w]->w<=24->i<2^w->Q (.bl true) H->uT vs H Q Z3
inductive jW(C:Ul)(vs:Uv)(H:Hp)(Q:VK)(Z3:XK):Prop
 |mk(v D st:_)(i n:Nat):vs=[v,.str st,.int i,.int n]->Pd C H v D->D.width<=24->i<oj D n st->Q (.bl true) H->jW C vs H Q Z3
section
variable{P:Uo}{w:Up}{K:ZF}{mg:Str->Option Uk}{base:Heap}{C fi aS aE aF aO:Ul}{t1 t2 t3 t4 t5 tM:Tok}
def FV:az [SA,Sr] [SA,Sr] (ak Ay):=cv zk
variable{fd:Ur}{f:Ul}
def C2(F:O0 K "is_word" "is_word" Ay f fd)(WI:Fn P w K mg base "is_within" 2 [SA,TU,S1] fz):OQ P w K mg base bQ 3 f fd [SA,Sr] uT:=by
 have ZZ:=FV
 walk_at "o"
 ·obtain⟨i,w,rfl,hw,hi,q⟩:=h;refine⟨_,ag (aw (ax WI hr rfl (aa (pv 0) (aa af (aa (aH cU (aH gq af (pv 1)) af) ab))))),?_⟩;refine⟨_,rfl,_,rfl,_,_,rfl,rfl,?_,_,_,rfl,rfl,_,_,_,rfl,by lia,?_,q⟩
  ·unfold Em;refine⟨by lia,by lia,zd⟩
  ·have e:((w:Int)).toNat=w:=by lia
   show(i:Int)<=1*2^((w:Int)).toNat-1;rw[e];have:((2^w:Nat):Int)=(2:Int)^w:=by norm_cast
   lia
def xC:az [SQ,Tq,SA,Ua] [SQ,Tq,SA,Ua] (ak iE):=cv zk
def uU(F:O0 K "is_operand" "is_operand" iE f fd)(T:Tc K C)(B:Bl mg)(WI:Fn P w K mg base "is_within" 2 [SA,TU,S1] fz)(WO:Fn P w K mg base "is_word" 3 [SA,Sr] uT):OQ P w K mg base bQ 4 f fd [SQ,Tq,SA,Ua] (jW C):=by
 have ZZ:=xC
 walk_at "o"
 ·obtain⟨v,D,st,i,n,rfl,⟨a,dx,pp,pm,pn,pk,us,rfl,ho,VG,V',WR,WS,ML⟩,hw,hb,q⟩:=h;refine⟨_,ac (aT (aq aX (pv 1) ai) (ag (aw (ax WI hr.m rfl (aa (pv 2) (aa af (aa (aH cU (aI aL (by rfl) B.len KW (aa (bB (pv 0) rfl) ab)) af) ab)))))) aG)
   (ac (aT (aq aX (pv 1) ai) (ag (aw (ax WI hr.m rfl (aa (pv 2) (aa af (aa (aH cU (aI aL (by rfl) B.len KW (aa (bB (pv 0) rfl) ab)) af) ab)))))) aG)
   (ac (aT (aq aX (pv 1) ai) (ag (aw (ax WO hr rfl (aa (pv 2) (aa (bB (pv 0) rfl) ab))))) aG)
   (ag (aw (ax WI hr.m rfl (aa (pv 2) (aa af (aa (pv 3) ab)))))))),?_⟩
  refine⟨_,rfl,rfl,_,rfl,ce (fun h=>?_) (fun h=>?_)⟩
  ·have h':st=Sn:=V.str.inj (h_ h);subst h';unfold oj at hb;rw[f_ rfl]at hb;refine⟨_,rfl,_,rfl,a,C,dx,_,_,rfl,ho,T.cl,T.na So zk,rfl,pp,_,rfl,.inr (ON.of VG),_,_,rfl,rfl,_,_,_,rfl,by lia,?_,q⟩;unfold ay;rw[Ky];lia
  have n1:st≠Sn:=fun e=>h (a_ (d_ V.str e));refine⟨_,rfl,rfl,_,rfl,ce (fun h=>?_) (fun h=>?_)⟩
  ·have h':st=Su:=V.str.inj (h_ h);subst h';unfold oj at hb;rw[e_ n1,f_ rfl]at hb;refine⟨_,rfl,_,rfl,a,C,dx,_,_,rfl,ho,T.cl,T.na Ss zk,rfl,pm,_,rfl,.inr (ON.of V'),_,_,rfl,rfl,_,_,_,rfl,by lia,?_,q⟩;unfold ay;rw[Ky];lia
  have n2:st≠Su:=fun e=>h (a_ (d_ V.str e));refine⟨_,rfl,rfl,_,rfl,ce (fun h=>?_) (fun h=>?_)⟩
  ·have h':st="number":=V.str.inj (h_ h);subst h';unfold oj at hb;rw[e_ n1,e_ n2,f_ rfl]at hb;exact⟨_,rfl,_,rfl,a,C,dx,_,_,rfl,ho,T.cl,T.na Sr zk,rfl,_,_,rfl,hw,hb,q⟩
  have n3:st≠"number":=fun e=>h (a_ (d_ V.str e));unfold oj at hb;rw[e_ n1,e_ n2,e_ n3]at hb;exact⟨_,rfl,_,rfl,_,_,_,rfl,by lia,by lia,q⟩
structure Rw where
 k:Kn
 ops:Ut
def xD(l:Ut):Uv:=l.map fun(n:Nat)=>V.int (n:Int)
def FW(D:Fm)(n:Nat)(r:Rw):Prop:=r.k∈D.kinds/\Paired (fun o(f:Str×Str)=>o<oj D n f.2) r.ops r.k.fs
inductive C3(H:Hp)(u:V)(r:Rw):Prop
 |mk(p t:_):u=.ref p->H p=some (.tup [.str r.k.name,.ref t])->H t=some (.tup (xD r.ops))->C3 H u r
def HR{l:Ut}{i:Nat}{x:V}(h:(xD l)[i]?=some x):∃o,l[i]?=some o/\x=.int (o:Int):=by
 unfold xD at h;rw[KZ]at h;cases e:l[i]? with
 |none=>rw[e]at h;cases h
 |some o=>rw[e]at h;exact⟨o,rfl,(Lc h).symm⟩
structure Kf(mg:Str->Option Uk):Prop where
 zip:mg "zip"=none
inductive qh(C:Ul)(vs:Uv)(H:Hp)(Q:VK)(Z3:XK):Prop
 |mk(v u D:_)(n:Nat)(r:Rw):vs=[v,u,.int n]->Pd C H v D->pL D->D.width<=24->C3 H u r->FW D n r->(∀H',OM H H'->Q (.bl true) H')->qh C vs H Q Z3
def Qn:az [SQ,SA,Ua,Tp,S_] [SQ,SA,Ua] (ak oT):=cv zk
def FX:(["name",Tq,"number",Ua,SQ]:Us).Nodup:=by decide +kernel
def Az(F:O0 K "is_row" "is_row" oT f fd)(T:Tc K C)(B:Bl mg)(B4:Kf mg)(FO:cD P w K mg base C "fields_of" 2 [Sm,SF] (Ch C))(IO:Fn P w K mg base "is_operand" 4 [SQ,Tq,SA,Ua] (jW C)):OQ P w K mg base bQ 5 f fd [SQ,SA,Ua] (qh C):=by
 have ZZ:=Qn
 walk_at "o"
 ·obtain⟨v,u,D,n,r,rfl,hT,hD,hw,⟨p,t,rfl,hp,ht⟩,⟨hk,U2⟩,q⟩:=h;obtain⟨a,dx,pp,pm,pn,pk,us,rfl,ho,VG,V',WR,WS,ML⟩:=id hT;obtain⟨f1,MG,M1,F1,B1⟩:=FO;refine⟨_,ac (aT (PW.pt (fe (cE (bT (aI (fR (T:="tuple")) (by rfl) B.isinstance dj (aa (pv 1) (aa (im (by rfl) B.tuple bG) ab)))))
     (fe (aq iP (aI aL (by rfl) B.len KW (aa (pv 1) ab)) af)
     (dM (aq eV (aB aJ (pv 1) af) (bB (pv 0) rfl) rfl))))) (ag (aw fH)) aG)
   (ac (bL (i:=3) Qn.nd (be (pv 0) (aa (aB aJ (pv 1) af) ab)))
   (ac (bL (i:=4) Qn.nd (aB aJ (pv 1) af))
   (ac (aT (PW.pt (fe (cE (bT (aI (fR (T:="tuple")) (by rfl) B.isinstance dj (aa (pv 4) (aa (im (by rfl) B.tuple bG) ab)))))
     (dM (aq iP (aI aL (by rfl) B.len KW (aa (pv 4) ab)) (aI aL (by rfl) B.len KW (aa (pv 3) ab)))))) (ag (aw fH)) aG)
   (ag (aw (aI (fq rfl) (by rfl) B.all eG (aa (fk (N':=["name",Tq,"number",Ua,SQ]) (ix:=[none,none,none,some 2,some 0]) (sc0:=ak oT) (N:=[SQ,SA,Ua,Tp,S_]) rfl zk (Cd true true rfl B4.zip (aa (pv 3) (aa (pv 4) ab)))
    (fun C' cl s H fp=>dz (K:=K) (n:=2) rfl rfl (aA (dz (K:=K) (n:=2) rfl rfl (aA (cq (i:=0) FX) (aA (cq (i:=1) FX) br))) (aA (cq (i:=2) FX) br)))
    (fun _ _ _ _ _=>dQ) (fun C' cl s H fp=>ax IO hr rfl (aa (pv 4) (aa (pv 1) (aa (pv 2) (aa (pv 3) ab)))))) ab))))))),?_⟩
  have hz:r.k.name∈D.kinds.map Kn.name:=K4.mpr ⟨_,hk,rfl⟩;refine⟨_,rfl,_,_,_,rfl,.tup hp,rfl,_,rfl,bP ?_⟩;refine⟨_,rfl,p,_,rfl,.inr (ON.of hp),rfl,_,rfl,bi (by simp) ?_⟩;refine⟨_,rfl,p,_,_,_,rfl,rfl,ON.of hp,rfl,_,rfl,a,C,dx,_,_,rfl,ho,T.cl,T.na S5 zk,rfl,pn,_,rfl,.inr (ON.of WR),rfl,eI _,_,rfl,bi ?_ ?_⟩
  ·show(!j7 (.str r.k.name) (ay (D.kinds.map Kn.name)))=false;rw[dU,Lg.mpr hz];rfl
  refine⟨_,rfl,a,dx,C,f1,_,MG,2,[Sm,SF],_,rfl,ho,rfl,T.cl,M1,F1,hr.m,B1,_,rfl,p,_,_,_,rfl,rfl,ON.of hp,rfl,_,D,r.k,rfl,hT,hD,hk,fun tf fu W7 U'=>?_⟩;refine⟨_,rfl,p,_,_,_,rfl,rfl,ON.of hp,rfl,?_⟩;refine⟨_,rfl,_,_,_,rfl,.tup ht,rfl,_,rfl,bP ?_⟩;have l1:=U2.length;have l2:=U'.length;have l3:fu.length=(xD r.ops).length:=by unfold xD;rw[Ky];lia
  refine⟨_,rfl,t,_,rfl,.inr (ON.of ht),_,rfl,tf,_,rfl,.inr (ON.of W7),rfl,_,rfl,bi (by rw[l3];simp) ?_⟩;refine⟨_,rfl,_,rfl,tf,t,rfl,⟨_,ON.of W7⟩,⟨_,ON.of ht⟩,?_⟩;have f3:=(hD.kf _ hk).2;have sz:(1000:Nat)<=sizeLine:=by decide
  refine Ce (b1:=true) (b2:=true) (K:=K) (l1:=tf) (l2:=t) (xs:=fu) (ys:=xD r.ops) l3 (fun i UI H'=>OM H H'/\UI=(List.replicate i true).map V.bl) ⟨OM.refl _,rfl⟩ (fun i UI H' hi⟨s1,e1⟩=>⟨ON.of (s1 _ _ W7),ON.of (s1 _ _ ht),by rw[e1,Ky,Lp];lia⟩) ?_ ?_
  ·rintro i x y UI H' T1 hx hy nT ⟨s1,rfl⟩;obtain⟨fl,XF,fp,rfl,ZK⟩:=dB U' hx;obtain⟨o,hoo,rfl⟩:=HR hy;obtain⟨fl2,hfl2,hb⟩:=dB U2 hoo;have e2:fl2=fl:=by
    rw[XF]at hfl2;exact(Lc hfl2).symm
   subst e2;have s2:=aj (o:=.tup [.ref fp,.int (o:Int)]) nT;have MO:=s1.trans s2;refine⟨T1,_,rfl,ON.of ae,rfl,_,_,rfl,⟨fp,_,rfl,ON.of (MO _ _ ZK),rfl,_,_,rfl,_,_,rfl,rfl,_,_,rfl,rfl,⟨rfl,rfl,trivial⟩,eB ?_⟩⟩;refine⟨_,rfl,_,rfl,_,rfl,_,rfl,_,D,fl2.2,o,n,rfl,hT.same MO,hw,hb,?_⟩;refine Nx.mk (Kx.mp hx).1 ⟨MO,?_⟩;rw[C_,KJ];rfl
  ·rintro UI H' ⟨s1,rfl⟩ D' WW;refine⟨D',List.replicate fu.length true,rfl,OO.of ae,?_⟩;have:(List.replicate fu.length true).all id=true:=by simp
   rw[this];exact q _ (s1.trans (aj WW))
def Kt(at_:V)(p m c l:Ul)(wd ft:V):List (Str×V):=[(Uj,at_),(So,.ref p),(Ss,.ref m),(Sw,.ref c),(Ue,.ref l),(SE,wd),(Sy,ft)]
structure Sc(K:ZF)(C:Ul):Prop where
 cl:QH K C
 n1:O1 K C Uj
 n2:O1 K C So
 n3:O1 K C Ss
 n4:O1 K C Sw
 n5:O1 K C Ue
 n6:O1 K C SE
 n7:O1 K C Sy
structure RA(C:Ul)(H:Hp)(x dx p m c l:Ul)(at_:V)(ps ms cs ls:Uv)(wd ft:V):Prop where
 ex:H x=some (.ins C dx (Kt at_ p m c l wd ft))
 ep:H p=some (.lst ps)
 em:H m=some (.lst ms)
 ec:H c=some (.lst cs)
 el:H l=some (.lst ls)
 pm:p≠m
 pc:p≠c
 pl:p≠l
 mc:m≠c
 ml:m≠l
 cl:c≠l
variable{H H':Hp}
def RA.same{x dx p m c l:Ul}{at_:V}{ps ms cs ls:Uv}{wd ft:V}(h:RA C H x dx p m c l at_ ps ms cs ls wd ft)(s:OM H H'):RA C H' x dx p m c l at_ ps ms cs ls wd ft:=⟨s _ _ h.ex,s _ _ h.ep,s _ _ h.em,s _ _ h.ec,s _ _ h.el,h.pm,h.pc,h.pl,h.mc,h.ml,h.cl⟩
def kK{C x dx q:Ul}{fs:List (Str×V)}{ys:Uv}{f:Str}(hx:H x=some (.ins C dx fs))(nq:H q=none):∃H',aM (aM H q (.lst ys)) x (.ins C dx (aV f (.ref q) fs))=H'/\H' x=some (.ins C dx (aV f (.ref q) fs))/\H' q=some (.lst ys)/\OS x H H':=by
 have qx:q≠x:=by
  rintro rfl;rw[nq]at hx;cases hx
 refine⟨_,rfl,ae,?_,fun b o hb hn=>?_⟩
 ·rw[au qx];exact ae
 ·rw[au hn];exact aj nq _ _ hb
abbrev uV:Stmt:=cu BE 0
inductive FY(C:Ul)(vs:Uv)(H:Hp)(Q:VK)(Z3:XK):Prop
 |mk(x dx p m c l:Ul)(at_:V)(ps ms cs ls:Uv):vs=[.ref x,at_,.ref p,.ref m,.ref c,.ref l]->H x=some (.ins C dx [])->H p=some (.lst ps)->H m=some (.lst ms)->H c=some (.lst cs)->H l=some (.lst ls)->(∀H' p' m' c' l',RA C H' x dx p' m' c' l' at_ ps ms cs ls (.str "on") .non->H p'=none->H m'=none->H c'=none->H l'=none->OS x H H'->Q .non H')->FY C vs H Q Z3
def JU:az [Sm,Uj,So,Ss,Sw,Ue] [Sm,Uj,So,Ss,Sw,Ue] (ak uV):=cv zk
def HS(F:O0 K "__init__" "State.__init__" uV f fd)(T:Sc K C)(B:Bl mg):OQ P w K mg base bQ 1 f fd [Sm,Uj,So,Ss,Sw,Ue] (FY C):=by
 have ZZ:=JU
 walk_at "o"
 ·obtain⟨x,dx,p,m,c,l,at_,ps,ms,cs,ls,rfl,hx,hp,hm,hc,hl,q⟩:=h;refine⟨_,ac (cC (pv 0) (pv 1) rfl) (ac (cC (pv 0) (aY c9 (by rfl) B.list cF (aa (pv 2) ab)) rfl) (ac (cC (pv 0) (aY c9 (by rfl) B.list cF (aa (pv 3) ab)) rfl) (ac (cC (pv 0) (aY c9 (by rfl) B.list cF (aa (pv 4) ab)) rfl) (ac (cC (pv 0) (aY c9 (by rfl) B.list cF (aa (pv 5) ab)) rfl) (ac (cC (pv 0) ai rfl) (ag (cC (pv 0) gm rfl))))))),?_⟩;have nx:∀{a:Ul}{us:Uv},H a=some (.lst us)->a≠x:=fun h e=>by rw[e,hx]at h;cases h
  refine⟨_,rfl,_,rfl,x,C,dx,_,rfl,hx,T.cl,T.n1,(by show 0<1000;decide),?_⟩;have x1:(aM H x (.ins C dx (aV Uj at_ []))) x=some (.ins C dx (aV Uj at_ [])):=ae;have b1:OS x H (aM H x (.ins C dx (aV Uj at_ []))):=fun b o e n=>by rw[au n];exact e
  generalize aM H x (.ins C dx (aV Uj at_ []))=H1 at*;refine⟨_,rfl,p,ps,rfl,.inl (OO.of (b1 _ _ hp (nx hp))),fun p' np=>⟨_,rfl,x,C,dx,_,rfl,aj np _ _ x1,T.cl,T.n2,(by show 1<1000;decide),?_⟩⟩;obtain⟨H2,e,x2,p2,b2⟩:=kK (f:=So) (ys:=ps) x1 np;rw[e];clear e;have px:p'≠x:=(ao x1 np).symm;have b2:=b1.trans b2;refine⟨_,rfl,m,ms,rfl,.inl (OO.of (b2 _ _ hm (nx hm))),fun m' nm=>⟨_,rfl,x,C,dx,_,rfl,aj nm _ _ x2,T.cl,T.n3,(by show 2<1000;decide),?_⟩⟩;obtain⟨H3,e,x3,m3,b3⟩:=kK (f:=Ss) (ys:=ms) x2 nm;rw[e];clear e;have mx:m'≠x:=(ao x2 nm).symm;have pm:=ao p2 nm;have p3:=b3 _ _ p2 px;have b3:=b2.trans b3;refine⟨_,rfl,c,cs,rfl,.inl (OO.of (b3 _ _ hc (nx hc))),fun c' nc=>⟨_,rfl,x,C,dx,_,rfl,aj nc _ _ x3,T.cl,T.n4,(by show 3<1000;decide),?_⟩⟩;obtain⟨H4,e,x4,c4,b4⟩:=kK (f:=Sw) (ys:=cs) x3 nc;rw[e];clear e;have cx:c'≠x:=(ao x3 nc).symm;have pc:=ao p3 nc;have mc:=ao m3 nc;have p4:=b4 _ _ p3 px;have m4:=b4 _ _ m3 mx;have b4:=b3.trans b4;refine⟨_,rfl,l,ls,rfl,.inl (OO.of (b4 _ _ hl (nx hl))),fun l' nl=>⟨_,rfl,x,C,dx,_,rfl,aj nl _ _ x4,T.cl,T.n5,(by show 4<1000;decide),?_⟩⟩;obtain⟨H5,e,x5,l5,b5⟩:=kK (f:=Ue) (ys:=ls) x4 nl;rw[e];clear e;have lx:l'≠x:=(ao x4 nl).symm;have pl:=ao p4 nl;have ml:=ao m4 nl;have cl:=ao c4 nl;have p5:=b5 _ _ p4 px;have m5:=b5 _ _ m4 mx;have c5:=b5 _ _ c4 cx;have b5:=b4.trans b5;refine⟨_,rfl,x,C,dx,_,rfl,x5,T.cl,T.n6,(by show 5<1000;decide),?_⟩;refine⟨_,rfl,x,C,dx,_,rfl,ae,T.cl,T.n7,(by show 6<1000;decide),?_⟩;have un':∀{H':Hp}{a:Ul},OS x H H'->a≠x->H' a=none->H a=none:=fun{H' a}b ne h=>by
   cases e:H a with
   |none=>rfl
   |some o=>rw[b _ _ e ne]at h;cases h
  refine q _ p' m' c' l' ⟨by rw[ae];rfl,?_,?_,?_,?_,pm,pc,pl,mc,ml,cl⟩ (un' b1 px np) (un' b2 mx nm) (un' b3 cx nc) (un' b4 lx nl) fun b o hb hn=>by rw[au hn,au hn];exact b5 _ _ hb hn
  ·rw[au px,au px];exact p5
  ·rw[au mx,au mx];exact m5
  ·rw[au cx,au cx];exact c5
  ·rw[au lx,au lx];exact l5
end
abbrev z0(n:Nat):Uv:=List.replicate n (.int 0)
inductive jo(vs:Uv)(H:Hp)(Q:VK)(Z3:XK):Prop
 |mk(a:Ul)(n:Nat)(B' hi:Int):vs=[.ref a,.int B',.int hi]->H a=some (.lst (z0 n))->(n:Int)<=B'->n<=1000->0<=hi->(∀H',OM H H'->Q (.bl true) H')->jo vs H Q Z3
inductive mN(vs:Uv)(H:Hp)(Q:VK)(Z3:XK):Prop
 |mk(a:Ul)(n:Nat)(hi:Int):vs=[.ref a,.int n,.int hi]->H a=some (.lst (z0 n))->n<=1000->0<=hi->(∀H',OM H H'->Q (.bl true) H')->mN vs H Q Z3
inductive uW(C:Ul)(vs:Uv)(H:Hp)(Q:VK)(Z3:XK):Prop
 |mk(v:V)(D:Fm):vs=[v]->Pd C H v D->D.width<=24->Q (.int (2^D.width-1)) H->uW C vs H Q Z3
section
def AA:az [SA,Uf,S1] [SA,Uf,S1] (ak ko):=cv zk
def JV:(["number",S1]:Us).Nodup:=by decide +kernel
def xE(F:O0 K "is_list_to" "is_list_to" ko f fd)(B:Bl mg)(WI:Fn P w K mg base "is_within" 2 [SA,TU,S1] fz):OQ P w K mg base bQ 3 f fd [SA,Uf,S1] jo:=by
 have ZZ:=AA
 walk_at "o"
 ·obtain⟨a,n,B',hi,rfl,ha,hn,h1,h0,q⟩:=h;have sz:(1000:Nat)<=sizeLine:=by decide
  refine⟨_,ac (aT (PW.pt (fe (cE (bT (aI (fR (T:="list")) (by rfl) B.isinstance dj (aa (pv 0) (aa (im (by rfl) B.list cF) ab)))))
     (dM (aq kO (aI aL (by rfl) B.len KW (aa (pv 0) ab)) (pv 1))))) (ag (aw fH)) aG)
   (ag (aw (aI (fq rfl) (by rfl) B.all eG (aa (fk (N':=["number",S1]) (ix:=[none,some 2]) (sc0:=ak ko) (N:=[SA,Uf,S1]) rfl zk (cm (pv 0))
    (fun C' cl s H fp=>cq (i:=0) JV)
    (fun _ _ _ _ _=>dQ) (fun C' cl s H fp=>ax WI hr rfl (aa (pv 0) (aa af (aa (pv 1) ab))))) ab)))),?_⟩
  refine⟨_,rfl,_,_,_,rfl,.lst ha,rfl,_,rfl,bP ?_⟩;refine⟨_,rfl,a,_,rfl,.inl (OO.of ha),_,rfl,_,_,rfl,rfl,_,rfl,bi (b_ (by rw[Lp];lia)) ?_⟩;refine⟨_,rfl,a,rfl,⟨_,OO.of ha⟩,?_⟩;refine eJ (K:=K) (a:=a) (xs:=z0 n) (fun i ys H'=>H'=H/\ys=(List.replicate i true).map V.bl) ⟨rfl,rfl⟩ (fun i ys H' Xd⟨eh,ey⟩=>⟨by rw[eh];exact OO.of ha,by rw[ey,Ky,Lp];rw[Lp]at Xd;lia⟩) ?_ ?_
  ·rintro i y ys H2 hy ⟨rfl,rfl⟩;have Wf:y=.int 0:=(List.mem_replicate.mp (KQ hy)).2;subst Wf;refine⟨⟨rfl,trivial⟩,?_⟩;refine⟨_,rfl,_,rfl,_,_,_,rfl,Int.le_refl _,h0,Nx.mk (Kx.mp hy).1 ⟨rfl,?_⟩⟩;rw[C_,KJ];rfl
  ·rintro ys H2 ⟨rfl,rfl⟩ l3 n3;have s3:=aj (o:=.lst ((List.replicate (z0 n).length true).map V.bl)) n3;refine⟨l3,_,rfl,OO.of ae,?_⟩;have:(List.replicate (z0 n).length true).all id=true:=by simp
   rw[this];exact q _ s3
def AB:az [SA,Uf,S1] [SA,Uf,S1] (ak oU):=cv zk
def xF(F:O0 K "is_list_of" "is_list_of" oU f fd)(B:Bl mg)(LT:Fn P w K mg base "is_list_to" 3 [SA,Uf,S1] jo):OQ P w K mg base bQ 4 f fd [SA,Uf,S1] mN:=by
 have ZZ:=AB
 walk_at "o"
 ·obtain⟨a,n,hi,rfl,ha,h1,h0,q⟩:=h;refine⟨_,ag (aw (jr (ax LT hr rfl (aa (pv 0) (aa (pv 1) (aa (pv 2) ab)))) (ip (cb aX (aI aL (by rfl) B.len KW (aa (pv 0) ab)) (pv 1))))),?_⟩;refine⟨_,rfl,_,rfl,_,rfl,a,n,_,hi,rfl,ha,Int.le_refl _,h1,h0,fun H1 s1=>⟨_,rfl,fC ?_⟩⟩;refine⟨_,rfl,a,_,rfl,.inl (OO.of (s1 _ _ ha)),_,rfl,rfl,?_⟩;have:Q (.bl true) H1:=q H1 s1;rw[show decide (V.int ((z0 n).length:Int)=V.int (n:Int))=true from a_ (by rw[Lp])];exact this
def FZ:az [SQ] [SQ] (ak yD):=cv zk
def C4(F:O0 K "highest_word" "highest_word" yD f fd)(T:Tc K C):OQ P w K mg base bQ 1 f fd [SQ] (uW C):=by
 have ZZ:=FZ
 walk_at "o"
 ·obtain⟨v,D,rfl,⟨a,dx,pp,pm,pn,pk,us,rfl,ho,VG,V',WR,WS,ML⟩,hw,q⟩:=h;refine⟨_,ag (aw (aH cU (aH gq af (bB (pv 0) rfl)) af)),?_⟩;refine⟨_,rfl,a,C,dx,_,_,rfl,ho,T.cl,T.na _ zd,rfl,_,_,rfl,rfl,⟨by lia,by lia,zd⟩,_,_,rfl,rfl,?_⟩;have e:(1:Int)*2^((D.width:Int)).toNat-1=2^D.width-1:=by
   have e1:((D.width:Int)).toNat=D.width:=by lia
   rw[e1,RE]
  rw[e];exact q
variable{H:Hp}
def jp{l0:Ul}{k:Int}{n:Nat}{Q:VK}(ek:k=n)(hn:n<=1000)(e0:H l0=some (.lst [.int 0]))(q:∀l1,H l1=none->Q (.ref l1) (aM H l1 (.lst (z0 n)))):Ev (.ref l0) (.int k) H Q:=by
 subst ek;have sz:(1000:Nat)<=sizeLine:=by decide
 refine⟨l0,n,[.int 0],rfl,rfl,e0,by lia,by lia,by simp;lia,fun p hp=>?_⟩;have:=q p hp;rw[Lu,List.flatten_replicate_singleton];exact this
def HU(n:Nat):(0:Int)<=2^n-1:=by
 have:(0:Int)<2^n:=Int.pow_pos zd;lia
def none_of{H H':Hp}{x:Ul}(s:OM H H')(h:H' x=none):H x=none:=by
 cases e:H x with
 |none=>rfl
 |some o=>rw[s _ _ e]at h;cases h
structure Zh(mg:Str->Option Uk)(tm:Tok):Prop where
 hr:mg "HIGHEST_ROW"=some (.int 999 tm)
abbrev AC:Us:=[SQ,Uj,So,Ss,Sw,Ue]
abbrev F0(tk:Tok):Array Uk:=#[.int 0 tk,.none,.none,.none,.none]
def HV{tk:Tok}(F:Qk K "state_of" "state_of" eK (F0 tk) f fd):Pb K fd AC [.int 0 tk,.none,.none,.none,.none]:=by
 obtain⟨oc,od,kV,doc,pm,an,MN,ct,UN,d,o,n,rfl,lk,VH,hd,hs⟩:=F.ex;intro s us KX hl;have YO:us.length=1:=by rw[Kz]at hl;exact Nat.add_right_cancel hl
 clear hl
 match us,YO with
 |[a],_=>exact BindsTo.of_defaults rfl (KX d o hd) hs rfl rfl
inductive F5(C Cs:Ul)(vs:Uv)(H:Hp)(Q:VK)(Z3:XK):Prop
 |mk(v:V)(D:Fm):vs=[v,.int 0,.non,.non,.non,.non]->Pd C H v D->D.width<=24->D.places.length<=4->D.marks.length<=3->D.cells<=64->D.depth<=8->(∀H' x dx p m c l,OM H H'->RA Cs H' x dx p m c l (.int 0) (z0 D.places.length) (z0 D.marks.length) (z0 D.cells) (z0 0) (.str "on") .non->H x=none->H p=none->H m=none->Q (.ref x) H')->F5 C Cs vs H Q Z3
def Ra:az AC AC (ak eK):=cv zk
def HX{ds:Array Uk}(F:Qk K "state_of" "state_of" eK ds f fd)(T:Tc K C)(B:Bl mg)(Z:Zh mg tk)(MK:Mk K Cs fi)(mgS:mg "State"=some (.ref Cs))(IN:OQ P w K mg base bQ 1 fi YZ [Sm,Uj,So,Ss,Sw,Ue] (FY Cs))(bI:Pb K YZ [Sm,Uj,So,Ss,Sw,Ue] [])
  (WI:Fn P w K mg base "is_within" 2 [SA,TU,S1] fz) (LT:Fn P w K mg base "is_list_to" 3 [SA,Uf,S1] jo) (LO:Fn P w K mg base "is_list_of" 4 [SA,Uf,S1] mN) (HW:Fn P w K mg base "highest_word" 1 [SQ] (uW C)):OQ P w K mg base bQ 5 f fd AC (F5 C Cs):=by
 have ZZ:=Ra
 walk_at "o"
 ·obtain⟨v,D,rfl,hT,hw,h4,h3,h64,h8,q⟩:=h;obtain⟨a0,dx,pp,pm,pn,pk,us,hv,ho,VG,V',WR,WS,ML⟩:=id hT;subst hv;have lenP:((ay D.places).length:Int)=(D.places.length:Nat):=by unfold ay;rw[Ky]
  have lenM:((ay D.marks).length:Int)=(D.marks.length:Nat):=by unfold ay;rw[Ky]
  have pn0:=HU D.width;refine⟨_,ac (aT (cE (bT (ax WI hr.m rfl (aa (pv 1) (aa af (aa (bE (v:=.int 999) rfl Z.hr ⟨_,rfl⟩) ab)))))) (ag bV) aG)
   (ac (bL (i:=2) Ra.nd (di (aq ot (pv 2) gm) (aH kW (aP (aa af ab)) (aI aL (by rfl) B.len KW (aa (bB (pv 0) rfl) ab))) (pv 2))) (ac (aT (cE (bT (ax LO hr rfl (aa (pv 2) (aa (aI aL (by rfl) B.len KW (aa (bB (pv 0) rfl) ab)) (aa (ax HW hr.m rfl (aa (pv 0) ab)) ab)))))) (ag bV) aG)
   (ac (bL (i:=3) Ra.nd (di (aq ot (pv 3) gm) (aH kW (aP (aa af ab)) (aI aL (by rfl) B.len KW (aa (bB (pv 0) rfl) ab))) (pv 3))) (ac (aT (cE (bT (ax LO hr rfl (aa (pv 3) (aa (aI aL (by rfl) B.len KW (aa (bB (pv 0) rfl) ab)) (aa af ab)))))) (ag bV) aG)
   (ac (bL (i:=4) Ra.nd (di (aq ot (pv 4) gm) (aH kW (aP (aa af ab)) (bB (pv 0) rfl)) (pv 4))) (ac (aT (cE (bT (ax LO hr rfl (aa (pv 4) (aa (bB (pv 0) rfl) (aa (ax HW hr.m rfl (aa (pv 0) ab)) ab)))))) (ag bV) aG)
   (ac (bL (i:=5) Ra.nd (di (aq ot (pv 5) gm) (aP ab) (pv 5))) (ac (aT (cE (bT (ax LT hr.m rfl (aa (pv 5) (aa (bB (pv 0) rfl) (aa (bE (v:=.int 999) rfl Z.hr ⟨_,rfl⟩) ab)))))) (ag bV) aG)
   (ag (aw (ke MK IN hr.m rfl mgS bI .nil iV (aa (pv 1) (aa (pv 2) (aa (pv 3) (aa (pv 4) (aa (pv 5) ab)))))))))))))))),?_⟩
  refine⟨_,rfl,_,_,_,rfl,zd,zd,_,rfl,bP ?_⟩;refine⟨_,rfl,rfl,_,rfl,fC ⟨OT,fun l0 n0=>?_⟩⟩;generalize zz:aM H l0 _=H1;have⟨s1,e1⟩:=nw n0 zz;clear zz;refine⟨_,rfl,a0,C,dx,_,_,rfl,s1 _ _ ho,T.cl,T.na So zk,rfl,pp,_,rfl,.inr (ON.of (s1 _ _ VG)),jp lenP (by lia) e1 fun lp np=>?_⟩;generalize zz:aM H1 lp _=H2;have⟨Vy,ep⟩:=nw np zz;clear zz;have s2:=s1.trans Vy;refine⟨_,rfl,_,rfl,a0,C,dx,_,_,rfl,s2 _ _ ho,T.cl,T.na So zk,rfl,pp,_,rfl,.inr (ON.of (s2 _ _ VG)),_,rfl,_,D,rfl,hT.same s2,hw,lp,D.places.length,_,by rw[lenP],ep,by lia,pn0,fun H3 Vo=>⟨_,rfl,bP ?_⟩⟩;have s3:=s2.trans Vo;have ep:=Vo _ _ ep;refine⟨_,rfl,rfl,_,rfl,fC ⟨OT,fun l0 n0=>?_⟩⟩;generalize zz:aM H3 l0 _=H4;have⟨s4',e4⟩:=nw n0 zz;clear zz;have s4:=s3.trans s4';have ep:=s4' _ _ ep;refine⟨_,rfl,a0,C,dx,_,_,rfl,s4 _ _ ho,T.cl,T.na Ss zk,rfl,pm,_,rfl,.inr (ON.of (s4 _ _ V')),jp lenM (by lia) e4 fun lm nm=>?_⟩;generalize zz:aM H4 lm _=H5;have⟨Wm,em⟩:=nw nm zz;clear zz;have s5:=s4.trans Wm;have ep:=Wm _ _ ep;refine⟨_,rfl,_,rfl,a0,C,dx,_,_,rfl,s5 _ _ ho,T.cl,T.na Ss zk,rfl,pm,_,rfl,.inr (ON.of (s5 _ _ V')),lm,D.marks.length,_,by rw[lenM],em,by lia,zd,fun H6 Vx=>⟨_,rfl,bP ?_⟩⟩;have s6:=s5.trans Vx;have ep:=Vx _ _ ep;have em:=Vx _ _ em;refine⟨_,rfl,rfl,_,rfl,fC ⟨OT,fun l0 n0=>?_⟩⟩;generalize zz:aM H6 l0 _=H7;have⟨Xx,e7⟩:=nw n0 zz;clear zz;have s7:=s6.trans Xx;refine⟨_,rfl,a0,C,dx,_,_,rfl,s7 _ _ ho,T.cl,T.na Sw zk,rfl,jp rfl (by lia) e7 fun lc nc=>?_⟩;generalize zz:aM H7 lc _=H8;have⟨Xw,ec⟩:=nw nc zz;clear zz;have s8:=s7.trans Xw;have ep:=(Xx.trans Xw) _ _ ep;have em:=(Xx.trans Xw) _ _ em;refine⟨_,rfl,_,rfl,a0,C,dx,_,_,rfl,s8 _ _ ho,T.cl,T.na Sw zk,rfl,_,rfl,_,D,rfl,hT.same s8,hw,lc,D.cells,_,rfl,ec,by lia,pn0,fun H9 s9'=>⟨_,rfl,bP ?_⟩⟩;have s9:=s8.trans s9';refine⟨_,rfl,rfl,_,rfl,fC ⟨OT,fun ll nl=>?_⟩⟩;generalize zz:aM H9 ll _=Ha;have⟨sa',el⟩:=nw nl zz;clear zz;have sa:=s9.trans sa';refine⟨_,rfl,_,rfl,a0,C,dx,_,_,rfl,sa _ _ ho,T.cl,T.na Sx zk,rfl,ll,0,_,_,rfl,el,by lia,zd,zd,fun Hb Zb=>⟨_,rfl,bP ?_⟩⟩;have sb:=sa.trans Zb;have s9b:=(s9'.trans sa').trans Zb;refine⟨_,rfl,_,rfl,_,rfl,_,rfl,_,rfl,fun x dy nx W4 hxd=>?_⟩;have sx:OM Hb (aM (aM Hb dy (.own x)) x (.ins Cs dy [])):=(aj W4).trans (aj (by rw[au hxd.symm];exact nx));refine⟨x,dy,lp,lm,lc,ll,_,_,_,_,_,rfl,ae,(s9b.trans sx) _ _ ep,(s9b.trans sx) _ _ em,(s9b.trans sx) _ _ ec,(Zb.trans sx) _ _ el,fun H' p' m' c' l' hO np' nm' nc' nl' b=>?_⟩;refine⟨rfl,q H' x dy p' m' c' l' (fun b' o e=>?_) hO (none_of sb nx) (none_of (sb.trans sx) np') (none_of (sb.trans sx) nm')⟩;exact b _ _ (sx _ _ (sb _ _ e)) (ao (sb _ _ e) nx)
end
def jq{n i:Nat}(h:i<n):Bs n (i:Int)=some i:=by
 unfold Bs;rw[f_ (by lia),f_ (by lia)];simp
structure Wc(K:ZF)(C:Ul):Prop where
 cl:QH K C
 n1:O1 K C SQ
 n2:O1 K C T0
 n3:O1 K C S_
def JX(v:V)(x t:Ul):List (Str×V):=[(SQ,v),(T0,.ref x),(S_,.ref t)]
structure Q1(C Cs Cw:Ul)(H:Hp)(y dy:Ul)(v:V)(D:Fm)(x dx p m c l t:Ul)(ops:Ut)(f:Sf):Prop where
 ew:H y=some (.ins Cw dy (JX v x t))
 tb:Pd C H v D
 st:RA Cs H x dx p m c l (.int 0) (aW (fl f false D.places.length)) (aW (fl f true D.marks.length)) (z0 D.cells) (z0 0) (.str "on") .non
 et:H t=some (.tup (aW ops))
 w4:4<=D.width
 w24:D.width<=24
def Qt(p m:Ul)(H H':Hp):Prop:=∀b o,H b=some o->b≠p->b≠m->H' b=some o
def Qt.refl:Qt p m H H:=fun _ _ e _ _=>e
def Qt.trans(a:Qt p m H H1)(b:Qt p m H1 H2):Qt p m H H2:=fun c o e h1 h2=>b _ _ (a _ _ e h1 h2) h1 h2
def Qt.same(a:Qt p m H H1)(b:OM H1 H2):Qt p m H H2:=fun c o e h1 h2=>b _ _ (a _ _ e h1 h2)
def Qt.kt(b:Qt p m H H')(ep:H p=some (.lst xs))(em:H m=some (.lst ys)):OZ H H':=fun a us e=>b _ _ e (by rintro rfl;rw[ep]at e;cases e) (by rintro rfl;rw[em]at e;cases e)
def Pd.b2(h:Pd C H v D)(b:Qt p m H H')(ep:H p=some (.lst xs))(em:H m=some (.lst ys)):Pd C H' v D:=by
 obtain⟨a,dx,pp,pm,pn,pk,us,e,h1,h2,h3,h4,h5,h6⟩:=h;have k:=b.kt ep em;exact⟨a,dx,pp,pm,pn,pk,us,e,b _ _ h1 (by rintro rfl;rw[ep]at h1;cases h1) (by rintro rfl;rw[em]at h1;cases h1),k _ _ h2,k _ _ h3,k _ _ h4,k _ _ h5,bD (fun _ _ h=>QC.kt k h) h6⟩
def Q1.put(h:Q1 C Cs Cw H y dy v D x dx p m c l t ops f)(b:Bool){i:Nat}{g:Sf}(hi:i<if b=true then D.marks.length else D.places.length)(e1:∀j,j≠i->g b j=f b j)(e2:∀j,g (!b) j=f (!b) j):Q1 C Cs Cw (aM H (if b=true then m else p) (.lst ((aW (fl f b (if b=true then D.marks.length else D.places.length))).set i (.int (g b i))))) y dy v D x dx p m c l t ops g/\Qt p m H (aM H (if b=true then m else p) (.lst ((aW (fl f b (if b=true then D.marks.length else D.places.length))).set i (.int (g b i))))):=by
 have hset:∀n,i<n->(aW (fl f b n)).set i (.int (g b i))=aW (fl g b n):=fun n hn=>by
  rw[<-Ax (b:=b) hn e1];unfold aW;rw[List.map_set]
 have bt:Qt p m H (aM H (if b=true then m else p) (.lst ((aW (fl f b (if b=true then D.marks.length else D.places.length))).set i (.int (g b i))))):=fun a o e h1 h2=>by
  rw[au (by split<;>assumption)];exact e
 refine⟨?_,bt⟩;have ep:=h.st.ep;have em:=h.st.em;refine⟨bt _ _ h.ew (by rintro rfl;have:=h.ew;rw[ep]at this;cases this) (by rintro rfl;have:=h.ew;rw[em]at this;cases this),h.tb.b2 bt ep em,⟨?_,?_,?_,?_,?_,h.st.pm,h.st.pc,h.st.pl,h.st.mc,h.st.ml,h.st.cl⟩,bt.kt ep em _ _ h.et,h.w4,h.w24⟩
 ·exact bt _ _ h.st.ex (by rintro rfl;have:=h.st.ex;rw[ep]at this;cases this) (by rintro rfl;have:=h.st.ex;rw[em]at this;cases this)
 ·cases b with
  |true=>rw[f_ rfl,au h.st.pm,ep,qf (g:=g) (b:=false) e2]
  |false=>rw[e_ zd,ae,e_ zd];rw[e_ zd]at hi;rw[hset _ hi]
 ·cases b with
  |true=>rw[f_ rfl,ae,f_ rfl];rw[f_ rfl]at hi;rw[hset _ hi]
  |false=>rw[e_ zd,au h.st.pm.symm,em,qf (g:=g) (b:=true) e2]
 ·exact bt _ _ h.st.ec h.st.pc.symm h.st.mc.symm
 ·exact bt _ _ h.st.el h.st.pl.symm h.st.ml.symm
abbrev uX:Stmt:=cu nO 0
abbrev mO:Stmt:=cu nO 1
abbrev qi:Stmt:=cu nO 2
abbrev uY:Stmt:=cu nO 3
abbrev qj:Stmt:=cu nO 5
abbrev qk:Stmt:=cu nO 6
inductive ql(Cw:Ul)(vs:Uv)(H:Hp)(Q:VK)(Z3:XK):Prop
 |mk(y dy x t:Ul)(v:V):vs=[.ref y,v,.ref x,.ref t]->H y=some (.ins Cw dy [])->(∀H',H' y=some (.ins Cw dy (JX v x t))->OS y H H'->Q .non H')->ql Cw vs H Q Z3
inductive iN(Cw:Ul)(vs:Uv)(H:Hp)(Q:VK)(Z3:XK):Prop
 |mk(y dy x t:Ul)(v u:V)(tt:Tt)(ops:Ut):vs=[.ref y,u]->H y=some (.ins Cw dy (JX v x t))->Qy H (jR tt).1 (jR tt).2 u->H t=some (.tup (aW ops))->((jR tt).1=true->(jR tt).2<ops.length)->Q (.int (nu ops tt)) H->iN Cw vs H Q Z3
def C5(D:Fm)(ops:Ut)(tt:Tt):Prop:=((jR tt).1=true->(jR tt).2<ops.length)/\mY D.places.length D.marks.length ops tt
inductive sB(C Cs Cw:Ul)(b:Bool)(vs:Uv)(H:Hp)(Q:VK)(Z3:XK):Prop
 |mk(y dy:Ul)(v:V)(D:Fm)(x dx p m c l t:Ul)(ops:Ut)(f:Sf)(u:V)(tt:Tt):vs=[.ref y,u]->Q1 C Cs Cw H y dy v D x dx p m c l t ops f->Qy H (jR tt).1 (jR tt).2 u->C5 D ops tt->dL tt=b->Q (.int (gS ops f tt)) H->sB C Cs Cw b vs H Q Z3
inductive mP(C Cs Cw:Ul)(b:Bool)(vs:Uv)(H:Hp)(Q:VK)(Z3:XK):Prop
 |mk(y dy:Ul)(v:V)(D:Fm)(x dx p m c l t:Ul)(ops:Ut)(f:Sf)(u:V)(tt:Tt)(T:Nat):vs=[.ref y,u,.int (if b=true then 1 else(max (j9 T tt) (gS ops f tt):Nat))]->Q1 C Cs Cw H y dy v D x dx p m c l t ops f->Qy H (jR tt).1 (jR tt).2 u->C5 D ops tt->dL tt=b->(b=true->gS ops f tt<=1)->(∀H',Q1 C Cs Cw H' y dy v D x dx p m c l t ops (du T ops f tt)->Qt p m H H'->Q .non H')->mP C Cs Cw b vs H Q Z3
section
def C6:az [Sm,SQ,T0,S_] [Sm,SQ,T0,S_] (ak uX):=cv zk
def AD(F:O0 K "__init__" "Way.__init__" uX f fd)(T:Wc K Cw):OQ P w K mg base bQ 1 f fd [Sm,SQ,T0,S_] (ql Cw):=by
 have ZZ:=C6
 walk_at "o"
 ·obtain⟨y,dy,x,t,v,rfl,hy,q⟩:=h;refine⟨_,ac (cC (pv 0) (pv 1) rfl) (ac (cC (pv 0) (pv 2) rfl) (ag (cC (pv 0) (pv 3) rfl))),?_⟩;refine⟨_,rfl,_,rfl,y,Cw,dy,_,rfl,hy,T.cl,T.n1,(by show 0<1000;decide),?_⟩;refine⟨_,rfl,_,rfl,y,Cw,dy,_,rfl,ae,T.cl,T.n2,(by show 1<1000;decide),?_⟩;refine⟨_,rfl,_,rfl,y,Cw,dy,_,rfl,ae,T.cl,T.n3,(by show 2<1000;decide),?_⟩;exact q _ ae fun b o e n=>by rw[au n,au n,au n];exact e
def F6:az [Sm,SY] [Sm,SY] (ak mO):=cv zk
def DW:("by":Str)≠"is":=by decide +kernel
def C7(F:O0 K "number_told" "Way.number_told" mO f fd)(T:Wc K Cw):OQ P w K mg base bQ 1 f fd [Sm,SY] (iN Cw):=by
 have ZZ:=F6
 walk_at "o"
 ·obtain⟨y,dy,x,t,v,u,tt,ops,rfl,hy,⟨q0,rfl,hq⟩,ht,hb,q⟩:=h;refine⟨_,ag (aw (di (aq aX (aB aJ (pv 1) af) ai) (aB aJ (pv 1) af) (aB aJ (bB (pv 0) rfl) (aB aJ (pv 1) af)))),?_⟩;refine⟨_,rfl,q0,_,_,_,rfl,rfl,ON.of hq,rfl,rfl,_,rfl,?_⟩;unfold nu at q;cases e:(jR tt).1 with
  |true=>
   rw[e]at q hb;refine bi (b_ fun z=>DW (V.str.inj z)) ?_;have hl:=hb rfl;refine⟨_,rfl,y,Cw,dy,_,_,rfl,hy,T.cl,T.n3,rfl,_,rfl,q0,_,_,_,rfl,rfl,ON.of hq,rfl,t,_,_,_,rfl,rfl,ON.of ht,bf (v:=.int (ops.getD (jR tt).2 0:Nat)) ?_,q⟩;unfold aW;rw[KZ,KF hl,KP,KF hl];rfl
  |false=>
   rw[e]at q;exact bF (a_ rfl) ⟨_,rfl,q0,_,_,_,rfl,rfl,ON.of hq,rfl,q⟩
def AE:az [Sm,SY] [Sm,SY] (ak qi):=cv zk
def uZ(h:i<n):(aW (fl f b n))[i]?=some (.int (f b i:Nat)):=by
 unfold aW;rw[KZ,sw h];rfl
def xG(F:O0 K "place_word" "Way.place_word" qi f fd)(T:Wc K Cw)(S:Sc K Cs)(NT:cD P w K mg base Cw "number_told" 1 [Sm,SY] (iN Cw)):OQ P w K mg base bQ 2 f fd [Sm,SY] (sB C Cs Cw false):=by
 have ZZ:=AE
 walk_at "o"
 ·obtain⟨y,dy,v,D,x,dx,p,m,c,l,t,ops,f,u,tt,rfl,W,hu,ho,hb,q⟩:=h;obtain⟨f1,MG,M1,F1,B1⟩:=NT;refine⟨_,ag (aw (aB aU (bB (bB (pv 0) rfl) rfl) (be (pv 0) (aa (pv 1) ab)))),?_⟩;have hn:=ho.2;unfold mY at hn;rw[hb]at hn;unfold gS at q;rw[hb]at q;exact⟨_,rfl,y,Cw,dy,_,_,rfl,W.ew,T.cl,T.n2,rfl,x,Cs,dx,_,_,rfl,W.st.ex,S.cl,S.n2,rfl,_,rfl,y,dy,Cw,f1,_,MG,1,[Sm,SY],_,rfl,W.ew,rfl,T.cl,M1,F1,hr,B1,_,rfl,y,dy,x,t,v,u,tt,ops,rfl,W.ew,hu,W.et,ho.1,p,_,_,_,rfl,rfl,OO.of W.st.ep,bf (uZ hn),q⟩
def C8:az [Sm,SY] [Sm,SY] (ak uY):=cv zk
def AF(F:O0 K "mark_bit" "Way.mark_bit" uY f fd)(T:Wc K Cw)(S:Sc K Cs)(NT:cD P w K mg base Cw "number_told" 1 [Sm,SY] (iN Cw)):OQ P w K mg base bQ 2 f fd [Sm,SY] (sB C Cs Cw true):=by
 have ZZ:=C8
 walk_at "o"
 ·obtain⟨y,dy,v,D,x,dx,p,m,c,l,t,ops,f,u,tt,rfl,W,hu,ho,hb,q⟩:=h;obtain⟨f1,MG,M1,F1,B1⟩:=NT;refine⟨_,ag (aw (aB aU (bB (bB (pv 0) rfl) rfl) (be (pv 0) (aa (pv 1) ab)))),?_⟩;have hn:=ho.2;unfold mY at hn;rw[hb]at hn;unfold gS at q;rw[hb]at q;exact⟨_,rfl,y,Cw,dy,_,_,rfl,W.ew,T.cl,T.n2,rfl,x,Cs,dx,_,_,rfl,W.st.ex,S.cl,S.n3,rfl,_,rfl,y,dy,Cw,f1,_,MG,1,[Sm,SY],_,rfl,W.ew,rfl,T.cl,M1,F1,hr,B1,_,rfl,y,dy,x,t,v,u,tt,ops,rfl,W.ew,hu,W.et,ho.1,m,_,_,_,rfl,rfl,OO.of W.st.em,bf (uZ hn),q⟩
def u9:du T ops f t (dL t) (nu ops t)=max (j9 T t) (gS ops f t):=by unfold du gS;rw[f_ ⟨rfl,rfl⟩]
def vf(h:j≠nu ops t):du T ops f t (dL t) j=f (dL t) j:=by unfold du;rw[e_ fun z=>h z.2]
def vh:du T ops f t (!dL t) j=f (!dL t) j:=by unfold du;rw[e_ fun z=>by cases e:dL t<;>rw[e]at z<;>exact absurd z.1 zd]
def AG:az [Sm,SY,SE] [Sm,SY,SE] (ak qj):=cv zk
def xH(F:O0 K "give_place" "Way.give_place" qj f fd)(T:Wc K Cw)(S:Sc K Cs)(NT:cD P w K mg base Cw "number_told" 1 [Sm,SY] (iN Cw)):OQ P w K mg base bQ 2 f fd [Sm,SY,SE] (mP C Cs Cw false):=by
 have ZZ:=AG
 walk_at "o"
 ·obtain⟨y,dy,v,D,x,dx,p,m,c,l,t,ops,f,u,tt,T',rfl,W,hu,ho,hb,_,q⟩:=h;obtain⟨f1,MG,M1,F1,B1⟩:=NT;refine⟨_,ag (df (pv 2) (iq (bB (bB (pv 0) rfl) rfl) (be (pv 0) (aa (pv 1) ab)) fj)),?_⟩;have hn:=ho.2;unfold mY at hn;rw[hb]at hn;have e1:∀j,j≠nu ops tt->du T' ops f tt false j=f false j:=fun j h=>by have:=vf (T:=T') (f:=f) h;rwa [hb]at this
  have e2:∀j,du T' ops f tt (!false) j=f (!false) j:=fun j=>by have:=vh (T:=T') (ops:=ops) (f:=f) (t:=tt) (j:=j);rwa [hb]at this
  have e3:=u9 (T:=T') (ops:=ops) (f:=f) (t:=tt);rw[hb]at e3;obtain⟨W',b'⟩:=W.put false (g:=du T' ops f tt) hn e1 e2;rw[e3]at W' b';refine⟨_,rfl,_,rfl,y,Cw,dy,_,_,rfl,W.ew,T.cl,T.n2,rfl,x,Cs,dx,_,_,rfl,W.st.ex,S.cl,S.n2,rfl,_,rfl,y,dy,Cw,f1,_,MG,1,[Sm,SY],_,rfl,W.ew,rfl,T.cl,M1,F1,hr,B1,_,rfl,y,dy,x,t,v,u,tt,ops,rfl,W.ew,hu,W.et,ho.1,p,_,_,_,rfl,rfl,W.st.ep,jq (by unfold aW;rw[Ky,dX];exact hn),?_⟩;exact q _ W' b'
inductive qm(vs:Uv)(H:Hp)(Q:VK)(Z3:XK):Prop
 |mk:vs=[.int 1]->Q (.int 1) H->qm vs H Q Z3
def C9:az [SE] [SE] (ak tQ):=cv zk
def AH(F:O0 K "truth_of" "truth_of" tQ f fd):OQ P w K mg base bQ 1 f fd [SE] qm:=by
 have ZZ:=C9
 walk_at "o"
 ·obtain⟨rfl,q⟩:=h;refine⟨_,ag (aw (di (aq aX (pv 0) af) af af)),?_⟩;exact⟨_,rfl,rfl,_,rfl,bi zd q⟩
def AI:az [Sm,SY,SE] [Sm,SY,SE] (ak qk):=cv zk
def xI(F:O0 K "give_mark" "Way.give_mark" qk f fd)(T:Wc K Cw)(S:Sc K Cs)(NT:cD P w K mg base Cw "number_told" 1 [Sm,SY] (iN Cw))(TR:Fn P w K mg base "truth_of" 1 [SE] qm):OQ P w K mg base bQ 2 f fd [Sm,SY,SE] (mP C Cs Cw true):=by
 have ZZ:=AI
 walk_at "o"
 ·obtain⟨y,dy,v,D,x,dx,p,m,c,l,t,ops,f,u,tt,T',rfl,W,hu,ho,hb,h1,q⟩:=h;obtain⟨f1,MG,M1,F1,B1⟩:=NT;refine⟨_,ag (df (ax TR hr rfl (aa (pv 2) ab)) (iq (bB (bB (pv 0) rfl) rfl) (be (pv 0) (aa (pv 1) ab)) fj)),?_⟩;have hn:=ho.2;unfold mY at hn;rw[hb]at hn;have e1:∀j,j≠nu ops tt->du T' ops f tt true j=f true j:=fun j h=>by have:=vf (T:=T') (f:=f) h;rwa [hb]at this
  have e2:∀j,du T' ops f tt (!true) j=f (!true) j:=fun j=>by have:=vh (T:=T') (ops:=ops) (f:=f) (t:=tt) (j:=j);rwa [hb]at this
  have e3:=u9 (T:=T') (ops:=ops) (f:=f) (t:=tt);have e4:j9 T' tt=1:=by cases tt<;>first|rfl|cases hb
  have:=h1 rfl;rw[hb,e4,R4 this]at e3;obtain⟨W',b'⟩:=W.put true (g:=du T' ops f tt) hn e1 e2;rw[e3]at W' b';refine⟨_,rfl,rfl,_,rfl,y,Cw,dy,_,_,rfl,W.ew,T.cl,T.n2,rfl,x,Cs,dx,_,_,rfl,W.st.ex,S.cl,S.n3,rfl,_,rfl,y,dy,Cw,f1,_,MG,1,[Sm,SY],_,rfl,W.ew,rfl,T.cl,M1,F1,hr,B1,_,rfl,y,dy,x,t,v,u,tt,ops,rfl,W.ew,hu,W.et,ho.1,m,_,_,_,rfl,rfl,W.st.em,jq (by unfold aW;rw[Ky,dX];exact hn),?_⟩;exact q _ W' b'
end
def tT(D:Fm):Nat:=2^(D.width-1)
def IG{W:Nat}(h:1<=W):(1:Int)*2^((W:Int)-1).toNat=((2^(W-1):Nat):Int):=by
 have e:((W:Int)-1).toNat=W-1:=by lia
 have:((2^(W-1):Nat):Int)=(2:Int)^(W-1):=by norm_cast
 rw[e,RE,this]
def jX:1<=tT D:=Mt zd
inductive qo(vs:Uv)(H:Hp)(Q:VK)(Z3:XK):Prop
 |mk(n W:Nat):vs=[.int n,.int W]->1<=W->W<=24->Q (.int (if 2^(W-1)<=n then 1 else 0)) H->qo vs H Q Z3
inductive qp(C Cs Cw:Ul)(vs:Uv)(H:Hp)(Q:VK)(Z3:XK):Prop
 |mk(y dy:Ul)(v:V)(D:Fm)(x dx p m c l t:Ul)(ops:Ut)(f:Sf)(u:V)(tt:Tt):vs=[.ref y,u]->Q1 C Cs Cw H y dy v D x dx p m c l t ops f->Q0 H tt u->C5 D ops tt->P1 (tT D) f->Q (.bl (Ps (tT D) ops f tt)) H->qp C Cs Cw vs H Q Z3
inductive AJ(C Cs Cw:Ul)(vs:Uv)(H:Hp)(Q:VK)(Z3:XK):Prop
 |mk(y dy:Ul)(v:V)(D:Fm)(x dx p m c l t:Ul)(ops:Ut)(f:Sf)(u:V)(tt:Tt):vs=[.ref y,u]->Q1 C Cs Cw H y dy v D x dx p m c l t ops f->Q0 H tt u->C5 D ops tt->P1 (tT D) f->(∀H',Q1 C Cs Cw H' y dy v D x dx p m c l t ops (du (tT D) ops f tt)->Qt p m H H'->Q .non H')->AJ C Cs Cw vs H Q Z3
def AK(h:P1 T f)(e:dL t=true):gS ops f t<=1:=by
 unfold gS;rw[e];have:=h.2 (nu ops t);lia
section
def HY:az [SE,Sr] [SE,Sr] (ak EL):=cv zk
def F7(F:O0 K "top_of" "top_of" EL f fd):OQ P w K mg base bQ 1 f fd [SE,Sr] qo:=by
 have ZZ:=HY
 walk_at "o"
 ·obtain⟨n,W,rfl,h1,h24,q⟩:=h;refine⟨_,(ag (aw (di (aq Dl (pv 0) (aH gq af (aH cU (pv 1) af))) af af))),?_⟩;refine⟨_,rfl,_,rfl,_,_,rfl,rfl,_,_,rfl,rfl,⟨by lia,by lia,zd⟩,_,_,rfl,rfl,_,rfl,?_⟩;rw[IG h1];by_cases h:2^(W-1)<=n
  ·rw[f_ h]at q;exact bF (a_ (by lia)) q
  ·rw[e_ h]at q;exact bi (b_ (by lia)) q
def Qo:az [Ug,Tn,Tq,SY] [Ug,Tn] (ak tR):=cv zk
def AL(F:O0 K "holds" "holds" tR f fd)(Tb:Tc K C)(T:Wc K Cw)(PW:cD P w K mg base Cw "place_word" 2 [Sm,SY] (sB C Cs Cw false))(MB:cD P w K mg base Cw "mark_bit" 2 [Sm,SY] (sB C Cs Cw true))(TO:Fn P w K mg base "top_of" 1 [SE,Sr] qo):OQ P w K mg base bQ 3 f fd [Ug,Tn] (qp C Cs Cw):=by
 have ZZ:=Qo
 walk_at "o"
 ·obtain⟨y,dy,v,D,x,dx,p,m,c,l,t,ops,f,u,tt,rfl,W,⟨tp,us,rfl,htp,ML⟩,ho,hi,q⟩:=h;obtain⟨f1,MG,M1,F1,B1⟩:=PW;obtain⟨f2,UF,M2,F2,B2⟩:=MB;have MF:OU 2 _:=hr;refine⟨_,(ac (df (pv 1) (cr rfl (aA (cq (i:=2) Qo.nd) (aA (cq (i:=3) Qo.nd) br)))) (ac (aT (aq aX (pv 2) ai) (ag (aw (cb iP (be (pv 0) (aa (pv 3) ab)) af))) aG) (ac (aT (aq aX (pv 2) ai) (ag (aw (cb aX (be (pv 0) (aa (pv 3) ab)) af))) aG) (ag (aw (cb aX (ax TO hr.m rfl (aa (be (pv 0) (aa (pv 3) ab)) (aa (bB (bB (pv 0) rfl) rfl) ab))) af)))))),?_⟩;refine⟨_,rfl,tp,_,rfl,ON.of htp,rfl,_,_,rfl,_,_,rfl,rfl,?_⟩;cases tt with
  |pl b n=>
   refine⟨_,rfl,rfl,_,rfl,bF (a_ rfl) ?_⟩;refine⟨_,rfl,y,dy,Cw,f1,_,MG,2,[Sm,SY],_,rfl,W.ew,rfl,T.cl,M1,F1,MF,B1,_,rfl,y,dy,v,D,x,dx,p,m,c,l,t,ops,f,us,.pl b n,rfl,W,ML,ho,rfl,rfl,?_⟩;have:(!decide (V.int (gS ops f (.pl b n):Nat)=V.int 0))=Ps (tT D) ops f (.pl b n):=by
    unfold Ps;by_cases h:1<=gS ops f (.pl b n)
    ·rw[b_ (fun z=>by have:=V.int.inj z;lia),a_ (show j9 (tT D) (.pl b n)<=_ from h)];rfl
    ·rw[a_ (d_ V.int (by lia)),b_ (show¬j9 (tT D) (.pl b n)<=_ from h)];rfl
   rw[this];exact q
  |mk b n=>
   refine⟨_,rfl,rfl,_,rfl,bi (by show decide (V.str Su=V.str Sn)=false;decide +kernel) ?_⟩;refine⟨_,rfl,rfl,_,rfl,bF (a_ rfl) ?_⟩;refine⟨_,rfl,y,dy,Cw,f2,_,UF,2,[Sm,SY],_,rfl,W.ew,rfl,T.cl,M2,F2,MF,B2,_,rfl,y,dy,v,D,x,dx,p,m,c,l,t,ops,f,us,.mk b n,rfl,W,ML,ho,rfl,rfl,?_⟩;have h1:=AK (ops:=ops) (t:=.mk b n) hi rfl;have:decide (V.int (gS ops f (.mk b n):Nat)=V.int 1)=Ps (tT D) ops f (.mk b n):=by
    unfold Ps;by_cases h:1<=gS ops f (.mk b n)
    ·rw[a_ (d_ V.int (by lia)),a_ (show j9 (tT D) (.mk b n)<=_ from h)]
    ·rw[b_ (fun z=>by have:=V.int.inj z;lia),b_ (show¬j9 (tT D) (.mk b n)<=_ from h)]
   rw[this];exact q
  |top b n=>
   refine⟨_,rfl,rfl,_,rfl,bi (by show decide (V.str Ta=V.str Sn)=false;decide +kernel) ?_⟩;refine⟨_,rfl,rfl,_,rfl,bi (by show decide (V.str Ta=V.str Su)=false;decide +kernel) ?_⟩;obtain⟨a0,dt,pp,pm,pn,pk,ks,rfl,ht,_⟩:=id W.tb;have w4:=W.w4;refine⟨_,rfl,y,dy,Cw,f1,_,MG,2,[Sm,SY],_,rfl,W.ew,rfl,T.cl,M1,F1,MF,B1,_,rfl,y,dy,_,D,x,dx,p,m,c,l,t,ops,f,us,.top b n,rfl,W,ML,ho,rfl,?_⟩;refine⟨_,rfl,y,Cw,dy,_,_,rfl,W.ew,T.cl,T.n1,rfl,a0,C,dt,_,_,rfl,ht,Tb.cl,Tb.na Sr zk,rfl,_,D.width,rfl,by lia,W.w24,rfl,?_⟩;have:decide (V.int (if 2^(D.width-1)<=gS ops f (.top b n)then 1 else 0)=V.int 1)=Ps (tT D) ops f (.top b n):=by
    unfold Ps;by_cases h:2^(D.width-1)<=gS ops f (.top b n)
    ·rw[f_ h,a_ rfl,a_ (show j9 (tT D) (.top b n)<=_ from h)]
    ·rw[e_ h,b_ zd,b_ (show¬j9 (tT D) (.top b n)<=_ from h)]
   rw[this];exact q
def QU:az [Ug,Tn,Tq,SY,"least"] [Ug,Tn] (ak lI):=cv zk
def F8(F:O0 K "let_hold" "let_hold" lI f fd)(B:Bl mg)(Tb:Tc K C)(T:Wc K Cw)(PW:cD P w K mg base Cw "place_word" 2 [Sm,SY] (sB C Cs Cw false))(GP:cD P w K mg base Cw "give_place" 2 [Sm,SY,SE] (mP C Cs Cw false))(GM:cD P w K mg base Cw "give_mark" 2 [Sm,SY,SE] (mP C Cs Cw true)):OQ P w K mg base bQ 3 f fd [Ug,Tn] (AJ C Cs Cw):=by
 have ZZ:=QU
 walk_at "o"
 ·obtain⟨y,dy,v,D,x,dx,p,m,c,l,t,ops,f,u,tt,rfl,W,⟨tp,us,rfl,htp,ML⟩,ho,hi,q⟩:=h;obtain⟨f1,MG,M1,F1,B1⟩:=PW;obtain⟨f2,UF,M2,F2,B2⟩:=GP;obtain⟨f3,UE,M3,F3,B3⟩:=GM;have w4:=W.w4;have w24:=W.w24;refine⟨_,(ac (df (pv 1) (cr rfl (aA (cq (i:=2) QU.nd) (aA (cq (i:=3) QU.nd) br)))) (ag (aT (aq aX (pv 2) ai) (ag (aQ (be (pv 0) (aa (pv 3) (aa af ab))))) (bN (fun σ H'=>H'=H/\σ=[some (.ref y),some (.ref tp),some (.str (Ho tt)),some us,some (.int (j9 (tT D) tt:Nat))]) (bL (i:=4) QU.nd (di (aq aX (pv 2) ai) (aH gq af (aH cU (bB (bB (pv 0) rfl) rfl) af)) af)) (ag (aQ (be (pv 0) (aa (pv 3) (aa (aI (gT rfl) (by rfl) B.max B_ (aa (pv 4) (aa (be (pv 0) (aa (pv 3) ab)) ab))) ab))))))))),?_⟩;refine⟨_,rfl,tp,_,rfl,ON.of htp,rfl,_,_,rfl,_,_,rfl,rfl,?_⟩;cases hb:dL tt with
  |true=>
   cases tt with
   |mk b n=>
    refine⟨_,rfl,rfl,_,rfl,bF (a_ rfl) ?_⟩;exact⟨_,rfl,y,dy,Cw,f3,_,UE,2,[Sm,SY,SE],_,rfl,W.ew,rfl,T.cl,M3,F3,hr,B3,_,rfl,y,dy,v,D,x,dx,p,m,c,l,t,ops,f,us,.mk b n,tT D,rfl,W,ML,ho,rfl,fun _=>AK hi rfl,q⟩
   |_=>cases hb
  |false=>
   have nm:Ho tt≠Su:=by
    cases tt with
    |mk b n=>cases hb
    |pl b n=>show(Sn:Str)≠Su;decide +kernel
    |top b n=>show(Ta:Str)≠Su;decide +kernel
   refine⟨_,rfl,rfl,_,rfl,bi (b_ fun z=>nm (V.str.inj z)) ⟨?_,?_⟩⟩
   ·rintro σ H' ⟨rfl,rfl⟩;refine⟨_,rfl,y,dy,Cw,f2,_,UF,2,[Sm,SY,SE],_,rfl,W.ew,rfl,T.cl,M2,F2,hr,B2,_,rfl,_,rfl,_,rfl,y,dy,Cw,f1,_,MG,2,[Sm,SY],_,rfl,W.ew,rfl,T.cl,M1,F1,hr,B1,_,rfl,y,dy,v,D,x,dx,p,m,c,l,t,ops,f,us,tt,rfl,W,ML,ho,hb,_,_,rfl,?_⟩;refine⟨y,dy,v,D,x,dx,p,m,c,l,t,ops,f,us,tt,tT D,?_,W,ML,ho,hb,(fun z=>by cases z),q⟩;show _=[V.ref y,us,V.int ((max (j9 (tT D) tt) (gS ops f tt):Nat):Int)];refine d_ (fun z=>[V.ref y,us,V.int z]) ?_;split<;>lia
   ·cases tt with
    |mk b n=>cases hb
    |pl b n=>exact⟨_,rfl,rfl,_,rfl,bi (by show decide (V.str Sn=V.str Ta)=false;decide +kernel) ⟨rfl,rfl⟩⟩
    |top b n=>
     obtain⟨a0,dt,pp,pm,pn,pk,ks,rfl,ht,_⟩:=id W.tb;refine⟨_,rfl,rfl,_,rfl,bF (a_ rfl) ?_⟩;refine⟨_,rfl,y,Cw,dy,_,_,rfl,W.ew,T.cl,T.n1,rfl,a0,C,dt,_,_,rfl,ht,Tb.cl,Tb.na Sr zk,rfl,_,_,rfl,rfl,_,_,rfl,rfl,⟨by lia,by lia,zd⟩,rfl,?_⟩;rw[IG (by lia)];rfl
end
inductive QB(H:Hp)(v:V)(x:Tt×Bool):Prop
 |mk(p:Ul)(u:V):v=.ref p->H p=some (.tup [u,.bl x.2])->Q0 H x.1 u->QB H v x
def QB.kt(k:OZ H H')(h:QB H v x):QB H' v x:=by obtain⟨p,u,a,b,c⟩:=h;exact ⟨p,u,a,k _ _ b,c.kt k⟩
inductive PU(H0 H:Hp)(v:V)(x:Pa):Prop
 |mk(l:Ul)(us:Uv):v=.ref l->H0 l=none->H l=some (.lst us)->Paired (QB H) us x->PU H0 H v x
def PU.same(h:PU H0 H v x)(s:OM H H'):PU H0 H' v x:=by obtain⟨l,us,a,b,c,d⟩:=h;exact ⟨l,us,a,b,s _ _ c,bD (fun _ _ h=>QB.kt (av s) h) d⟩
def PU.old(h:PU H0 H v x)(s:OM H1 H0):PU H1 H v x:=by obtain⟨l,us,a,b,c,d⟩:=h;exact ⟨l,us,a,none_of s b,c,d⟩
inductive JY(H0 H:Hp)(v:V)(x:List Pa):Prop
 |mk(l:Ul)(us:Uv):v=.ref l->H0 l=none->H l=some (.lst us)->Paired (PU H0 H) us x->JY H0 H v x
inductive AM(m:Nat)(vs:Uv)(H:Hp)(Q:VK):Prop
 |mk(v:V)(d:Dd):vs=[v]->Qw H d v->gl d<=m->m<=10->(∀u H',OM H H'->JY H H' u (fB d)->Q u H')->AM m vs H Q
def wB:Nat->Sp
 |0=>jN
 |m+1=>fun vs H Q _=>AM m vs H Q
def vi:∀{R:V->Pa->Prop}{a b:Uv}{x y:List Pa},Paired R a x->Paired R b y->Paired R (a++b) (x++y)
 |_,_,_,_,_,.nil,h=>h
 |_,_,_,_,_,.cons h t,h2=>.cons h (vi t h2)
def map_take{f:Pa->Pa}{l:List Pa}(h:l[i]?=some x):(l.take (i+1)).map f=(l.take i).map f++[f x]:=by
 rw[k_,h,KJ];rfl
section
def Rt:az [To,"yes"] [To] (ak yE):=cv zk
def HZ:(["further",To]:Us).Nodup:=by decide +kernel
def AO{y:Bool}{H1:Hp}{us:Uv}{qs:List Pa}{p:Ul}{u a b:V}{tt:Tt}(hq:Paired (PU H1 H2) us qs)(hp:H2 p=some (.tup [.str Ub,u,a,b]))(ht:Q0 H2 tt u)(i:Nat)(ys:Uv)(H':Hp)(x:V)(hx:us[i]?=some x)(s:OM H2 H')(hy:Paired (PU H1 H') ys ((qs.take i).map ((tt,y)::·)))(n1:OM H1 H2)
  {l1 lt lc:Ul} {Ha Hb Hc:Hp} (nt:H' lt=none) (ea:aM H' lt (.tup [u,.bl y])=Ha) (nl:Ha l1=none) (eb:aM Ha l1 (.lst [.ref lt])=Hb) (nc:Hb lc=none) {xs:Uv} (Zr:∃l,x=.ref l/\H' l=some (.lst xs)) (ec:aM Hb lc (.lst ([.ref lt]++xs))=Hc):OM H2 Hc/\Paired (PU H1 Hc) (ys++[.ref lc]) ((qs.take (i+1)).map ((tt,y)::·)):=by
 have sa:=(nw nt ea).1;have ta:=(nw nt ea).2;have sb:=(nw nl eb).1;have sc:=(nw nc ec).1;have tc:=(nw nc ec).2;have s3:=(sa.trans sb).trans sc;have s4:=s.trans s3;refine⟨s4,?_⟩;obtain⟨q,X8,l,xs',rfl,hl0,hl,VE⟩:=dB hq hx;obtain⟨l',e,YQ⟩:=Zr;cases e;rw[s _ _ hl]at YQ;cases YQ;rw[map_take X8];refine eu (R:=PU H1 Hc) ⟨lc,_,rfl,none_of n1 (none_of ((s.trans sa).trans sb) nc),tc,?_⟩ (bD (fun _ _ h=>PU.same h s3) hy);exact .cons ⟨lt,u,rfl,(sb.trans sc) _ _ ta,ht.kt (av s4)⟩ (bD (fun _ _ h=>QB.kt (av s4) h) VE)
def qr(F:O0 K "tests_to_leaves" "tests_to_leaves" yE f fd)(TL:Fn P w K mg base "tests_to_leaves" n [To] (wB m)):OQ P w K mg base bQ (n+1) f fd [To] (wB (m+1)):=by
 have ZZ:=Rt
 walk_at "o"
 ·obtain⟨v,d,rfl,hd,hm,Yf,q⟩:=h;have sz:(100000:Nat)<=sizeLine:=by decide
  refine⟨_,(ac (aT (aq aX (aB aJ (pv 0) af) ai) (ag (aw (aP (aa (aP ab) ab)))) aG) (ac (gF (i:=1) Rt.nd rfl rfl (N':=["further",To]) (ix:=[none,some 0]) (sc0:=ak yE) (N:=[To,"yes"]) rfl zk (cm (ax TL hr rfl (aa (aB aJ (pv 0) af) ab))) (fun _ _ _ _ _=>(cq (i:=0) HZ)) (fun _ _ _ _ _=>dQ) (fun _ _ _ _ _=>(aH dA (aP (aa (aK (aa (aB (kr (K:=K) rfl) (pv 1) af) (aa fH ab))) ab)) (pv 0)))) (ag (aw (aH dA (pv 1) (fk (N':=["further",To]) (ix:=[none,some 0]) (sc0:=ak yE) (N:=[To,"yes"]) rfl zk (cm (ax TL hr rfl (aa (aB aJ (pv 0) af) ab))) (fun _ _ _ _ _=>(cq (i:=0) HZ)) (fun _ _ _ _ _=>dQ) (fun _ _ _ _ _=>(aH dA (aP (aa (aK (aa (aB (kr (K:=K) rfl) (pv 1) af) (aa fH ab))) ab)) (pv 0))))))))),?_⟩;cases d with
  |leaf ss e=>
   obtain⟨p,q',us,u,rfl,hp,_⟩:=hd;refine⟨_,rfl,p,_,_,_,rfl,rfl,ON.of hp,rfl,rfl,_,rfl,bF (a_ rfl) ?_⟩;refine⟨OT,fun l0 n0=>?_⟩;generalize zz:aM H l0 _=H1;have⟨s1,e1⟩:=nw n0 zz;clear zz;refine⟨OT,fun l1 n1=>?_⟩;generalize zz:aM H1 l1 _=H2;have⟨s2,e2⟩:=nw n1 zz;clear zz;exact q _ _ (s1.trans s2) ⟨l1,_,rfl,none_of s1 n1,e2,.cons ⟨l0,_,rfl,n0,s2 _ _ e1,.nil⟩ .nil⟩
  |ite tt y n=>
   obtain⟨p,u,a,b,rfl,hp,ht,hy,hn⟩:=hd;cases m with
   |zero=>exact absurd hm (by simp[gl])
   |succ m=>
    have Vs:gl y<=m:=by simp only[gl]at hm;lia
    have YM:gl n<=m:=by simp only[gl]at hm;lia
    refine⟨_,rfl,p,_,_,_,rfl,rfl,ON.of hp,rfl,rfl,_,rfl,bi (by show decide (V.str Ub=V.str "leaf")=false;decide +kernel) ?_⟩;refine⟨_,rfl,p,_,_,_,rfl,rfl,ON.of hp,rfl,a,y,rfl,hy,Vs,by lia,fun u1 H1 s1 hZZ=>?_⟩;obtain⟨l1,us1,e1,n1,hl1,X8⟩:=hZZ;subst e1;have pl1:=fP y;have pw1:2^gl y<=2^10:=K0 zd (by lia);have ln1:=X8.length;refine⟨l1,rfl,⟨_,OO.of hl1⟩,?_⟩;refine eJ (K:=K) (a:=l1) (xs:=us1) (fun i ys H'=>OM H1 H'/\Paired (PU H H') ys (((fB y).take i).map ((tt,true)::·))) ⟨OM.refl _,.nil⟩ (fun i ys H' hi⟨s',Wf⟩=>⟨OO.of (s' _ _ hl1),by have:=Wf.length;rw[Ky,KG]at this;lia⟩) ?_ ?_
    ·rintro i x ys H' hx ⟨s',Wf⟩;obtain⟨q1,W9,lx,xs,rfl,hlx0,Zx,Zr⟩:=dB X8 hx;refine⟨⟨rfl,trivial⟩,eB ?_⟩;refine⟨_,rfl,p,_,_,_,rfl,rfl,ON.of ((s1.trans s') _ _ hp),rfl,OT,fun lt nt=>⟨OT,fun l2 n2=>?_⟩⟩;have sx:=(aj (o:=.tup [u,.bl true]) nt).trans (aj (o:=.lst [.ref lt]) n2);have hxl:=Zr.length;have Vc:=mM y q1 (KQ W9);refine⟨_,rfl,l2,lx,_,_,rfl,rfl,ae,(s'.trans sx) _ _ Zx,by show 1+xs.length<=sizeLine;lia,fun lc nc=>?_⟩;refine Nx.mk (Kx.mp hx).1 ?_;exact AO X8 (s1 _ _ hp) (ht.kt (av s1)) i ys H' _ hx s' Wf s1 nt rfl n2 rfl nc ⟨lx,rfl,s' _ _ Zx⟩ rfl
    ·rintro ys H2 ⟨s2,hy2⟩ ly nly;generalize zz:aM H2 ly _=H3;have⟨s3,e3⟩:=nw nly zz;clear zz;have U5:=s2.trans s3;have VA:=s1.trans U5;have hy3:Paired (PU H H3) ys ((fB y).map ((tt,true)::·)):=by
      have:=bD (fun _ _ h=>PU.same h s3) hy2
      rwa [ln1,K7]at this
     refine⟨_,rfl,_,rfl,p,_,_,_,rfl,rfl,ON.of (VA _ _ hp),rfl,b,n,rfl,hn.kt (av VA),YM,by lia,fun u4 H4 s4 hZZ=>?_⟩;obtain⟨l4,Xt,e4,n4,ZA,XA⟩:=hZZ;subst e4;have pl2:=fP n;have pw2:2^gl n<=2^10:=K0 zd (by lia);have ln4:=XA.length;have lny:=hy3.length;rw[Ky]at lny;refine⟨l4,rfl,⟨_,OO.of ZA⟩,?_⟩;have U7:=VA.trans s4;have XA:Paired (PU H H4) Xt (fB n):=bD (fun _ _ h=>PU.old h VA) XA;refine eJ (K:=K) (a:=l4) (xs:=Xt) (fun i ys H'=>OM H4 H'/\Paired (PU H H') ys (((fB n).take i).map ((tt,false)::·))) ⟨OM.refl _,.nil⟩ (fun i ys H' hi⟨s',Wf⟩=>⟨OO.of (s' _ _ ZA),by have:=Wf.length;rw[Ky,KG]at this;lia⟩) ?_ ?_
     ·rintro i x UI H' hx ⟨s',Wf⟩;obtain⟨q1,W9,lx,xs,rfl,hlx0,Zx,Zr⟩:=dB XA hx;refine⟨⟨rfl,trivial⟩,eB ?_⟩;refine⟨_,rfl,p,_,_,_,rfl,rfl,ON.of ((U7.trans s') _ _ hp),rfl,OT,fun lt nt=>⟨OT,fun l2 n2=>?_⟩⟩;have sx:=(aj (o:=.tup [u,.bl false]) nt).trans (aj (o:=.lst [.ref lt]) n2);have hxl:=Zr.length;have Vc:=mM n q1 (KQ W9);refine⟨_,rfl,l2,lx,_,_,rfl,rfl,ae,(s'.trans sx) _ _ Zx,by show 1+xs.length<=sizeLine;lia,fun lc nc=>?_⟩;refine Nx.mk (Kx.mp hx).1 ?_;exact AO XA (U7 _ _ hp) (ht.kt (av U7)) i UI H' _ hx s' Wf U7 nt rfl n2 rfl nc ⟨lx,rfl,s' _ _ Zx⟩ rfl
     ·rintro UI H5 ⟨s5,hy5⟩ lz nlz;generalize zz:aM H5 lz _=H6;have⟨s6,e6⟩:=nw nlz zz;clear zz;have s36:=(s4.trans s5).trans s6;have hy6:Paired (PU H H6) UI ((fB n).map ((tt,false)::·)):=by
       have:=bD (fun _ _ h=>PU.same h s6) hy5
       rwa [ln4,K7]at this
      have lnz:=hy6.length;rw[Ky]at lnz;refine⟨ly,lz,_,_,rfl,rfl,s36 _ _ e3,e6,by lia,fun lr nr=>?_⟩;have s7:=aj (o:=.lst (ys++UI)) nr;have Wn:=(VA.trans s36).trans s7;refine q _ _ Wn ⟨lr,_,rfl,none_of (VA.trans s36) nr,ae,?_⟩;exact vi (bD (fun _ _ h=>PU.same h (s36.trans s7)) hy3) (bD (fun _ _ h=>PU.same h s7) hy6)
end
def jY:letA T ops f (l++[x])=if x.2=true then du T ops (letA T ops f l) x.1 else letA T ops f l:=by
 unfold letA;rw[List.foldl_append];rfl
def Ic(a b:Bool):decide (V.bl a=V.bl b)=(a==b):=by cases a<;>cases b<;>rfl
inductive AQ(C Cs Cw:Ul)(vs:Uv)(H:Hp)(Q:VK)(Z3:XK):Prop
 |mk(y dy:Ul)(v:V)(D:Fm)(x dx p m c l t:Ul)(ops:Ut)(f:Sf)(tl:Ul)(us:Uv)(pa:Pa):vs=[.ref y,.ref tl]->Q1 C Cs Cw H y dy v D x dx p m c l t ops f->H tl=some (.lst us)->Paired (QB H) us pa->tl≠p->tl≠m->(∀z∈pa,C5 D ops z.1)->pa.length<=10->P1 (tT D) f->
  (∀H',Q1 C Cs Cw H' y dy v D x dx p m c l t ops (letA (tT D) ops f pa)->Qt p m H H'->Q (.bl (sK (tT D) ops (letA (tT D) ops f pa) pa)) H')->AQ C Cs Cw vs H Q Z3
inductive F9(C:Ul)(vs:Uv)(H:Hp)(Q:VK)(Z3:XK):Prop
 |mk(v u:V)(D:Fm)(r:Rw):vs=[v,u]->Pd C H v D->pL D->D.width<=24->C3 H u r->FW D 999 r->(∀H',OM H H'->Q .non H')->F9 C vs H Q Z3
section
def Q7:az [Ug,"tests",Tn,"must"] [Ug,"tests"] (ak oW):=cv zk
def Ie:([Tn,"must",Ug]:Us).Nodup:=by decide +kernel
def Ga(F:O0 K "is_led" "is_led" oW f fd)(B:Bl mg)(LH:Fn P w K mg base "let_hold" 3 [Ug,Tn] (AJ C Cs Cw))(HO:Fn P w K mg base "holds" 3 [Ug,Tn] (qp C Cs Cw)):OQ P w K mg base bQ 4 f fd [Ug,"tests"] (AQ C Cs Cw):=by
 have ZZ:=Q7
 walk_at "o"
 ·obtain⟨y,dy,v,D,x,dx,p,m,c,l,t,ops,f,tl,us,pa,rfl,W,WQ,ML,np,nm,UJ,Yf,hi,q⟩:=h;have sz:(100000:Nat)<=sizeLine:=by decide
  have lu:=ML.length;refine⟨_,(ac (cc g_ rfl (cm (pv 1)) (cr rfl (aA (cq (i:=2) Q7.nd) (aA (cq (i:=3) Q7.nd) br))) (ag (aT (bT (pv 3)) (ag (aQ (ax LH hr rfl (aa (pv 0) (aa (pv 2) ab))))) aG))) (ag (aw (aI (fq rfl) (by rfl) B.all eG (aa (fk (N':=[Tn,"must",Ug]) (ix:=[none,none,some 0]) (sc0:=ak oW) (N:=[Ug,"tests",Tn,"must"]) rfl zk (cm (pv 1)) (fun _ _ _ _ _=>(dz (K:=K) (n:=2) rfl rfl (aA (cq (i:=0) Ie) (aA (cq (i:=1) Ie) br)))) (fun _ _ _ _ _=>dQ) (fun _ _ _ _ _=>(cb aX (ax HO hr rfl (aa (pv 2) (aa (pv 0) ab))) (pv 1)))) ab))))),?_⟩;refine⟨_,rfl,tl,rfl,⟨_,OO.of WQ⟩,?_⟩;refine dN (K:=K) (a:=tl) (xs:=us) (fun i σ H'=>∃v2 v3:Option V,σ=[some (.ref y),some (.ref tl),v2,v3]/\Q1 C Cs Cw H' y dy v D x dx p m c l t ops (letA (tT D) ops f (pa.take i))/\Qt p m H H') ⟨_,_,rfl,W,Qt.refl⟩ (fun i σ H' _⟨_,_,_,_,b⟩=>OO.of (b _ _ WQ np nm)) ?_ ?_
  ·rintro i z σ H1 hz ⟨v2,v3,rfl,W1,b1⟩;obtain⟨⟨tt,b⟩,hx,pt,u,rfl,VF,W6⟩:=dB ML hz;have k1:=b1.kt W.st.ep W.st.em;have hi1:=P1.letA (ops:=ops) jX (pa.take i) f hi;have et:pa.take (i+1)=pa.take i++[(tt,b)]:=by rw[k_,hx];rfl
   refine⟨pt,_,rfl,ON.of (k1 _ _ VF),rfl,_,_,rfl,_,_,rfl,rfl,?_⟩;refine⟨_,rfl,_,rfl,?_⟩;cases b with
   |true=>
    refine fC ⟨_,rfl,_,rfl,y,dy,v,D,x,dx,p,m,c,l,t,ops,_,u,tt,rfl,W1,W6.kt k1,UJ _ (KQ hx),hi1,fun H2 W2 b2=>?_⟩;exact⟨_,_,rfl,by rw[et,jY,f_ rfl];exact W2,b1.trans b2⟩
   |false=>exact bP ⟨_,_,rfl,by rw[et,jY];exact W1,b1⟩
  ·rintro σ H1 ⟨v2,v3,rfl,W1,b1⟩;rw[lu,K7]at W1;have k1:=b1.kt W.st.ep W.st.em;have hi1:=P1.letA (ops:=ops) jX pa f hi;have ht1:=b1 _ _ WQ np nm;refine⟨_,rfl,tl,rfl,⟨_,OO.of ht1⟩,?_⟩;refine eJ (K:=K) (a:=tl) (xs:=us) (fun i ys H'=>H'=H1/\ys=((pa.take i).map fun x=>Ps (tT D) ops (letA (tT D) ops f pa) x.1==x.2).map V.bl) ⟨rfl,rfl⟩ (fun i ys H' Xd⟨eh,ey⟩=>⟨by rw[eh];exact OO.of ht1,by rw[ey,Ky,Ky,KG];lia⟩) ?_ ?_
   ·rintro i z ys H' hz ⟨rfl,rfl⟩;obtain⟨⟨tt,b⟩,hx,pt,u,rfl,VF,W6⟩:=dB ML hz;refine⟨pt,_,rfl,ON.of (k1 _ _ VF),rfl,_,_,rfl,_,_,rfl,rfl,⟨rfl,trivial⟩,eB ?_⟩;refine⟨_,rfl,_,rfl,y,dy,v,D,x,dx,p,m,c,l,t,ops,_,u,tt,rfl,W1,W6.kt k1,UJ _ (KQ hx),hi1,_,rfl,rfl,?_⟩;refine Nx.mk (Kx.mp hz).1 ⟨rfl,?_⟩;rw[k_,hx,KJ,KJ];refine d_ (_++·) (d_ (fun z=>[V.bl z]) ?_);exact Ic _ _
   ·rintro ys H' ⟨rfl,rfl⟩ l3 n3;have s3:=aj (o:=.lst (((pa.take us.length).map fun x=>Ps (tT D) ops (letA (tT D) ops f pa) x.1==x.2).map V.bl)) n3;refine⟨l3,_,rfl,OO.of ae,?_⟩;have:=q _ ⟨s3 _ _ W1.ew,W1.tb.same s3,W1.st.same s3,s3 _ _ W1.et,W1.w4,W1.w24⟩ (b1.same s3);unfold sK at this;rw[MA];rw[lu,K7]at this⊢;exact this
def JZ:az [SQ,S2] [SQ,S2] (ak lH):=cv zk
def Ig(F:O0 K "need_row" "need_row" lH f fd)(Z:Zh mg tk)(IR:Fn P w K mg base "is_row" 5 [SQ,SA,Ua] (qh C)):OQ P w K mg base bQ 6 f fd [SQ,S2] (F9 C):=by
 have ZZ:=JZ
 walk_at "o"
 ·obtain⟨v,u,D,r,rfl,hT,hD,hw,hR,hok,q⟩:=h;refine⟨_,(ag (aT (cE (bT (ax IR hr rfl (aa (pv 0) (aa (pv 1) (aa (bE (v:=.int 999) rfl Z.hr ⟨_,rfl⟩) ab)))))) (ag bV) aG)),?_⟩;exact⟨_,rfl,_,rfl,v,u,D,999,r,rfl,hT,hD,hw,hR,hok,fun H' s'=>⟨_,rfl,bP (q H' s')⟩⟩
end
inductive QG(H:Hp)(v:V)(x:Du):Prop
 |mk(p a b:Ul):v=.ref p->H p=some (.tup [.int (x.1:Nat),.ref a,.ref b])->H a=some (.tup (aW x.2.1))->H b=some (.tup (aW x.2.2))->QG H v x
def QG.kt(k:OZ H H')(h:QG H v x):QG H' v x:=by obtain⟨p,a,b,e,h1,h2,h3⟩:=h;exact ⟨p,a,b,e,k _ _ h1,k _ _ h2,k _ _ h3⟩
inductive Q5(H:Hp)(l:Ul)(x:List Du):Prop
 |mk(us:Uv):H l=some (.lst us)->Paired (QG H) us x->Q5 H l x
def Q5.same(h:Q5 H l x)(s:OM H H'):Q5 H' l x:=let⟨us,a,b⟩:=h;⟨us,s _ _ a,bD (fun _ _ h=>QG.kt (av s) h) b⟩
def DX(D:Fm)(ops:Ut):Dd->Prop
 |.leaf _ _=>True
 |.ite t y n=>C5 D ops t/\DX D ops y/\DX D ops n
def qt:∀d:Dd,DX D ops d->DN D.places.length D.marks.length ops d
 |.leaf _ _,_=>trivial
 |.ite t y n,h=>⟨h.1.2,qt y h.2.1,qt n h.2.2⟩
def qu:∀(d:Dd)(p:Pa),DX D ops d->p∈fB d->∀x∈p,C5 D ops x.1
 |.leaf _ _,p,_,hp,x,hx=>by
  unfold fB at hp;rw[Lb.mp hp]at hx;cases hx
 |.ite t y n,p,hd,hp,x,hx=>by
  unfold fB at hp;rcases La.mp hp with h|h
  ·obtain⟨q,hq,rfl⟩:=K4.mp h;rcases KH.mp hx with rfl|hx
   ·exact hd.1
   ·exact qu y q hd.2.1 hq x hx
  ·obtain⟨q,hq,rfl⟩:=K4.mp h;rcases KH.mp hx with rfl|hx
   ·exact hd.1
   ·exact qu n q hd.2.2 hq x hx
structure J0(D:Fm)(r:Rw):Prop where
 fm:pL D
 w4:4<=D.width
 w24:D.width<=24
 p4:D.places.length<=4
 m3:D.marks.length<=3
 c64:D.cells<=64
 d8:D.depth<=8
 ok:FW D 999 r
 sl:DX D r.ops r.k.dd
 dp:gl r.k.dd<=3
abbrev GB(D:Fm)(r:Rw)(i:Nat):List Du:=mL (tT D) r.ops D.places.length D.marks.length r.k.dd i
inductive vj(C:Ul)(vs:Uv)(H:Hp)(Q:VK)(Z3:XK):Prop
 |mk(v u:V)(D:Fm)(r:Rw):vs=[v,u]->Pd C H v D->C3 H u r->J0 D r->(∀l H',OM H H'->H l=none->Q5 H' l (GB D r (fB r.k.dd).length)->Q (.ref l) H')->vj C vs H Q Z3
def kL:aW (fl (fun _ _=>0) b n)=z0 n:=by
 unfold aW fl;rw[Lz];exact List.eq_replicate_iff.mpr ⟨by simp,fun z hz=>by obtain⟨i,_,rfl⟩:=K4.mp hz;rfl⟩
def J1{tk:Tok}:OV [.int 0,.non,.non,.non,.non] [.int 0 tk,.none,.none,.none,.none]:=.cons ⟨_,rfl⟩ (.cons rfl (.cons rfl (.cons rfl (.cons rfl .nil))))
section
def PD:az [SQ,S2,SF,S_,"ways","number","tests",T0] [SQ,S2] (ak oV):=cv zk
def Da{tk0:Tok}(F:O0 K "ways_of" "ways_of" oV f fd)(B:Bl mg)(B3:Ca mg)(Tb:Tc K C)(T:Wc K Cw)(S:Sc K Cs)(NR:Fn P w K mg base "need_row" 6 [SQ,S2] (F9 C))(TL:Fn P w K mg base "tests_to_leaves" n [To] (wB 4))(DE:cD P w K mg base C To 2 [Sm,SF] (kB C))(FO:Qk K "state_of" "state_of" eK (F0 tk0) fo fdo)(Iq:mg "state_of"=some (.ref fo))(SO:OQ P w K mg base bQ 5 fo fdo AC (F5 C Cs))(IL:Fn P w K mg base "is_led" 4 [Ug,"tests"] (AQ C Cs Cw))
  (MW:Mk K Cw fw) (mgW:mg "Way"=some (.ref Cw)) (INW:OQ P w K mg base bQ 1 fw fdw [Sm,SQ,T0,S_] (ql Cw)) (bW:Pb K fdw [Sm,SQ,T0,S_] []) (hn:6<=n):OQ P w K mg base bQ (n+1) f fd [SQ,S2] (vj C):=by
 have ZZ:=PD
 walk_at "o"
 ·obtain⟨v,u,D,r,rfl,hT,hR,hD,q⟩:=h;have MF:OU 2 _:=hr.mono (by lia);have Wh:OU 4 _:=hr.mono (by lia);have hr5:OU 5 _:=hr.mono (by lia);have hr6:OU 6 _:=hr.mono (by lia);have sz:(100000:Nat)<=sizeLine:=by decide
  obtain⟨f1,MG,M1,F1,B1⟩:=DE;obtain⟨a0,dt,pp,pm,pn,pk,ks,rfl,hta,_⟩:=id hT;refine⟨_,(ac (aQ (ax NR hr6 rfl (aa (pv 0) (aa (pv 1) ab)))) (ac (df (pv 1) (cr rfl (aA (cq (i:=2) PD.nd) (aA (cq (i:=3) PD.nd) br)))) (ac (bL (i:=4) PD.nd (aP ab)) (ac (cc g_ rfl (gX rfl B3.enumerate (aa (ax TL hr rfl (aa (be (pv 0) (aa (pv 2) ab)) ab)) ab)) (cr rfl (aA (cq (i:=5) PD.nd) (aA (cq (i:=6) PD.nd) br))) (ac (bL (i:=7) PD.nd (vC SO hr5 rfl Iq FO.kp (HV FO) J1 iV (aa (pv 0) ab))) (ag (aT (bT (ax IL Wh rfl (aa (ke MW INW MF rfl mgW bW .nil iV (aa (pv 0) (aa (pv 7) (aa (pv 3) ab)))) (aa (pv 6) ab)))) (ag (aQ (ci KU KS KR bv (pv 4) (aa (aK (aa (pv 5) (aa (aY bC (by rfl) B.tuple bG (aa (bB (pv 7) rfl) ab)) (aa (aY bC (by rfl) B.tuple bG (aa (bB (pv 7) rfl) ab)) ab)))) ab)))) aG)))) (ag (aw (pv 4))))))),?_⟩;refine⟨_,rfl,_,rfl,_,u,D,r,rfl,hT,hD.fm,hD.w24,hR,hD.ok,fun H1 s1=>?_⟩;obtain⟨pr,po,rfl,hpr,Vb⟩:=id hR;refine⟨_,rfl,pr,_,rfl,ON.of (s1 _ _ hpr),rfl,_,_,rfl,_,_,rfl,rfl,?_⟩;refine⟨OT,fun lw Zf=>?_⟩;generalize zz:aM H1 lw _=H2;have⟨Vy,ew⟩:=nw Zf zz;clear zz;have s2:=s1.trans Vy;have UT:H lw=none:=none_of s1 Zf;refine⟨_,rfl,a0,dt,C,f1,_,MG,2,[Sm,SF],_,rfl,s2 _ _ hta,rfl,Tb.cl,M1,F1,MF,B1,_,rfl,_,D,r.k,rfl,hT.same s2,hD.fm,hD.ok.1,fun b hb=>?_⟩;refine⟨b,r.k.dd,rfl,hb,hD.dp,zd,fun u3 H3 Vo hZZ=>?_⟩;obtain⟨l3,WL,e3,n3,X',hq3⟩:=hZZ;subst e3;have s3:=s2.trans Vo;have lq:=hq3.length;have l8:=fP r.k.dd;have pw8:2^gl r.k.dd<=2^3:=K0 zd hD.dp;have l3w:l3≠lw:=(ao ew n3).symm;have ew3:=Vo _ _ ew;refine⟨l3,rfl,⟨_,OO.of X'⟩,?_⟩;refine rC (K:=K) (l:=l3) (xs:=WL) (fun i σ H'=>∃v5 v6 v7:Option V,σ=[some (.ref a0),some (.ref pr),some (.str r.k.name),some (.ref po),some (.ref lw),v5,v6,v7]/\OS lw H3 H'/\Q5 H' lw (GB D r i)) ⟨_,_,_,rfl,OS.refl _ _,⟨_,ew3,.nil⟩⟩ (fun i σ H' _⟨_,_,_,_,b,_⟩=>OO.of (b _ _ X' l3w)) ?_ ?_
  ·rintro i z σ H4 Tt' hz nT ⟨v5,v6,v7,rfl,b4,D4⟩;obtain⟨pa,XB,tl,us,rfl,ntl,WQ,ML⟩:=dB hq3 hz;have mpa:=KQ XB;have tlw:tl≠lw:=(ao ew ntl).symm;have keep:∀{x o},H x=some o->H4 x=some o:=fun e=>b4 _ _ (s3 _ _ e) (ao e UT);have sH4:OM H H4:=fun x o e=>keep e;refine⟨Tt',_,rfl,ON.of ae,rfl,_,_,rfl,_,_,rfl,rfl,?_⟩;generalize zz:aM H4 Tt' _=H5;have⟨s5,_⟩:=nw nT zz;clear zz;have sH5:=sH4.trans s5;refine⟨_,rfl,_,D,rfl,hT.same sH5,hD.w24,hD.p4,hD.m3,hD.c64,hD.d8,fun H6 x dx p m c l s6 hO nx np nm=>?_⟩;have sH6:=sH5.trans s6;refine⟨_,rfl,_,rfl,_,rfl,fun y dy ny W4 hyd=>?_⟩;have sx:OM H6 (aM (aM H6 dy (.own y)) y (.ins Cw dy [])):=(aj W4).trans (aj (by rw[au hyd.symm];exact ny));refine⟨y,dy,x,po,_,rfl,ae,fun H7 hy7 b7=>⟨rfl,?_⟩⟩;have s7:OM H6 H7:=fun a o e=>b7 _ _ (sx _ _ e) (ao e ny);have Zc:=sH6.trans s7;have W:Q1 C Cs Cw H7 y dy (.ref a0) D x dx p m c l po r.ops (fun _ _=>0):=⟨hy7,hT.same Zc,by rw[kL,kL];exact hO.same s7,Zc _ _ Vb,hD.w4,hD.w24⟩;have Zd:=s6.trans s7;have YE:=s5.trans Zd;have np4:H4 p=none:=none_of s5 np;have nm4:H4 m=none:=none_of s5 nm;have Yn:=b4 _ _ WQ tlw;have k34:OZ H3 H4:=fun a us e=>b4 _ _ e (by rintro rfl;rw[ew3]at e;cases e);refine⟨_,rfl,y,dy,_,D,x,dx,p,m,c,l,po,r.ops,_,tl,us,pa,rfl,W,YE _ _ Yn,bD (fun _ _ h=>QB.kt (av YE) (QB.kt k34 h)) ML,ao Yn np4,ao Yn nm4,qu _ _ hD.sl mpa,by have:=mM _ _ mpa;have:=hD.dp;lia,P1.zero,fun H8 W8 b8=>⟨_,rfl,?_⟩⟩;have s8:OM H4 H8:=fun a o e=>b8 _ _ (YE _ _ e) (ao e np4) (ao e nm4);have b38:OS lw H3 H8:=fun a o e ne=>s8 _ _ (b4 _ _ e ne);have D8:=D4.same s8;have eD:GB D r (i+1)=GB D r i++DV (tT D) r.ops D.places.length D.marks.length i pa:=oh XB;unfold DV cL at eD;cases hl:sK (tT D) r.ops (letA (tT D) r.ops (fun _ _=>0) pa) pa with
   |false=>
    rw[hl]at eD;refine bP ⟨_,_,_,rfl,b38,?_⟩;rw[eD,e_ zd,Lm];exact D8
   |true=>
    rw[hl,f_ rfl]at eD;obtain⟨uw,hw8,hu8⟩:=D8;have lu8:=hu8.length;have ld:(GB D r i).length<=i:=sy;have hi:=(Kx.mp hz).1;refine fC ⟨_,rfl,.inl ⟨rfl,_,OO.of hw8⟩,_,rfl,_,rfl,x,Cs,dx,_,_,rfl,W8.st.ex,S.cl,S.n2,rfl,p,_,rfl,.inl ⟨OO.of W8.st.ep,fun ta nta=>?_⟩⟩;have s9:=aj (o:=.tup (aW (fl (letA (tT D) r.ops (fun _ _=>0) pa) false D.places.length))) nta;have ea:(aM H8 ta (.tup (aW (fl (letA (tT D) r.ops (fun _ _=>0) pa) false D.places.length)))) ta=_:=ae;generalize aM H8 ta (.tup (aW (fl (letA (tT D) r.ops (fun _ _=>0) pa) false D.places.length)))=H9 at s9 ea⊢;refine⟨_,rfl,x,Cs,dx,_,_,rfl,s9 _ _ W8.st.ex,S.cl,S.n3,rfl,m,_,rfl,.inl ⟨OO.of (s9 _ _ W8.st.em),fun tb ntb=>?_⟩⟩;have Vz:=aj (o:=.tup (aW (fl (letA (tT D) r.ops (fun _ _=>0) pa) true D.marks.length))) ntb;have eb:(aM H9 tb (.tup (aW (fl (letA (tT D) r.ops (fun _ _=>0) pa) true D.marks.length)))) tb=_:=ae;generalize aM H9 tb (.tup (aW (fl (letA (tT D) r.ops (fun _ _=>0) pa) true D.marks.length)))=Y6 at Vz eb⊢;refine⟨OT,fun tc ntc=>?_⟩;generalize zz:aM Y6 tc _=Y5;have⟨U6,ec⟩:=nw ntc zz;clear zz;have Xm:=(s9.trans Vz).trans U6;refine⟨lw,_,_,rfl,rfl,Xm _ _ hw8,by lia,?_⟩;have kU:OZ Y5 (aM Y5 lw (.lst (uw++[.ref tc]))):=fun a us e=>by rw[au (by rintro rfl;rw[Xm _ _ hw8]at e;cases e)];exact e
    refine⟨_,_,_,rfl,fun a o e ne=>by rw[au ne];exact Xm _ _ (b38 _ _ e ne),?_⟩;rw[eD];exact⟨_,ae,eu (R:=QG _) ⟨tc,ta,tb,rfl,kU _ _ ec,kU _ _ ((Vz.trans U6) _ _ ea),kU _ _ (U6 _ _ eb)⟩ (bD (fun _ _ h=>QG.kt kU (QG.kt (av Xm) h)) hu8)⟩
  ·rintro σ H4 ⟨v5,v6,v7,rfl,b4,D4⟩;rw[lq]at D4;exact⟨_,rfl,q lw H4 (fun a o e=>b4 _ _ (s3 _ _ e) (ao e UT)) UT D4⟩
end
def Gb:(xx (.mk x n)++"s":Str)=Ss:=by show(Su++"s":Str)=Ss;decide +kernel
def Db:(xx (.top x n)++"s":Str)=So:=by show(Sn++"s":Str)=So;decide +kernel
def Gc:(xx (.pl x n)++"s":Str)=So:=by show(Sn++"s":Str)=So;decide +kernel
inductive Ro(D:Fm)(H:Hp)(st:Ul)(pl mk:Ut):Prop
 |mk(kvs:List (cQ×V))(a b:Ul):H st=some (.dK kvs)->bq kvs (kS So)=some (.ref a)->bq kvs (kS Ss)=some (.ref b)->H a=some (.lst (aW pl))->H b=some (.lst (aW mk))->pl.length=D.places.length->mk.length=D.marks.length->(∀w∈pl,w<2^D.width)->Ro D H st pl mk
def Ro.same(h:Ro D H st pl mr)(s:OM H H'):Ro D H' st pl mr:=by obtain⟨k,a,b,h1,h2,h3,h4,h5,h6,h7,h8⟩:=h;exact ⟨k,a,b,s _ _ h1,h2,h3,s _ _ h4,s _ _ h5,h6,h7,h8⟩
inductive qv(vs:Uv)(H:Hp)(Q:VK)(Z3:XK):Prop
 |mk(u:V)(po:Ul)(tt:Tt)(ops:Ut):vs=[u,.ref po]->Qy H (jR tt).1 (jR tt).2 u->H po=some (.tup (aW ops))->((jR tt).1=true->(jR tt).2<ops.length)->Q (.int (nu ops tt)) H->qv vs H Q Z3
abbrev DY(H:Hp)(d:Ul)(D:Fm):Prop:=QD H d D.width D.places D.marks
structure DZ(D:Fm):Prop where
 w4:4<=D.width
 w24:D.width<=24
 p4:D.places.length<=4
 m3:D.marks.length<=3
inductive AR(vs:Uv)(H:Hp)(Q:VK)(Z3:XK):Prop
 |mk(u:V)(d st po:Ul)(tt:Tt)(D:Fm)(ops pl mk:Ut):vs=[u,.ref d,.ref st,.ref po]->Q0 H tt u->DY H d D->DZ D->Ro D H st pl mk->H po=some (.tup (aW ops))->C5 D ops tt->(∀H',OM H H'->Q (.bl (Ps (tT D) ops (sf pl mk) tt)) H')->AR vs H Q Z3
inductive AS(m:Nat)(vs:Uv)(H:Hp)(Q:VK):Prop
 |mk(H0:Hp)(v ah:V)(d:Dd)(pre:Pa):vs=[v,ah]->OM H0 H->Qw H d v->PU H0 H ah pre->gl d<=m->m<=10->pre.length+m<=20->(∀u H',OM H H'->JY H0 H' u ((fB d).map (pre++·))->Q u H')->AS m vs H Q
def sC:Nat->Sp
 |0=>jN
 |m+1=>fun vs H Q _=>AS m vs H Q
inductive AU(m:Nat)(vs:Uv)(H:Hp)(Q:VK):Prop
 |mk(v:V)(k:Nat)(d st po:Ul)(dd:Dd)(D:Fm)(ops pl mk:Ut):vs=[v,.int k,.ref d,.ref st,.ref po]->Qw H dd v->gl dd<=m->m<=4->DY H d D->DZ D->Ro D H st pl mk->H po=some (.tup (aW ops))->DX D ops dd->(∀H',OM H H'->Q (.int (k+qe (tT D) ops (sf pl mk) dd:Nat)) H')->AU m vs H Q
def sD:Nat->Sp
 |0=>jN
 |m+1=>fun vs H Q _=>AU m vs H Q
def J2{W n:Nat}(h:1<=W):(n:Int) / 2^((W:Int)-1).toNat=((n / 2^(W-1):Nat):Int):=by
 have e:((W:Int)-1).toNat=W-1:=by lia
 rw[e]
 norm_cast
def QD.same'(h:QD H d W ps ms)(s:OM H H'):QD H' d W ps ms:=by
 obtain⟨kvs,lp,lm,h1,h2,h3,h4,h5,h6⟩:=h;exact⟨kvs,lp,lm,s _ _ h1,h2,h3,h4,s _ _ h5,s _ _ h6⟩
section
def Gd:az [SM,Sl] [SM,Sl] (ak lJ):=cv zk
def Dc(F:O0 K "_law_number" "_law_number" lJ f fd):OQ P w K mg base bQ 1 f fd [SM,Sl] qv:=by
 have ZZ:=Gd
 walk_at "o"
 ·obtain⟨u,po,tt,ops,rfl,⟨q0,rfl,hq⟩,ht,hb,q⟩:=h;refine⟨_,(ag (aw (di (aq aX (aB aJ (pv 0) af) ai) (aB aJ (pv 1) (aB aJ (pv 0) af)) (aB aJ (pv 0) af)))),?_⟩;refine⟨_,rfl,q0,_,_,_,rfl,rfl,ON.of hq,rfl,rfl,_,rfl,?_⟩;unfold nu at q;cases e:(jR tt).1 with
  |true=>
   rw[e]at q hb;have hl:=hb rfl;refine bF (a_ rfl) ⟨_,rfl,_,rfl,q0,_,_,_,rfl,rfl,ON.of hq,rfl,po,_,_,_,rfl,rfl,ON.of ht,bf (v:=.int (ops.getD (jR tt).2 0:Nat)) ?_,q⟩;unfold aW;rw[KZ,KF hl,KP,KF hl];rfl
  |false=>
   rw[e]at q;exact bi (b_ fun z=>DW (V.str.inj z).symm) ⟨_,rfl,q0,_,_,_,rfl,rfl,ON.of hq,rfl,q⟩
def Rg:az [Tw,Si,SU,Sl,SJ,"_law_word"] [Tw,Si,SU,Sl] (ak oX):=cv zk
def D0{pl mk:Ut}(h:nu ops tt<if dL tt=true then mk.length else pl.length):(aW (if dL tt=true then mk else pl))[nu ops tt]?=some (.int (gS ops (sf pl mk) tt:Nat)):=by
 unfold gS sf aW;rw[KZ];cases e:dL tt with
 |true=>
  rw[e]at h;simp only[J_]at h⊢;rw[KF h,KP,KF h];rfl
 |false=>
  rw[e]at h;simp only[Bool.false_eq_true,if_false]at h⊢;rw[KF h,KP,KF h];rfl
def Ge(F:O0 K "_law_holds" "_law_holds" oX f fd)(B:Bl mg)(LN:Fn P w K mg base "_law_number" 1 [SM,Sl] qv):OQ P w K mg base bQ 2 f fd [Tw,Si,SU,Sl] AR:=by
 have ZZ:=Rg
 walk_at "o"
 ·obtain⟨u,d,st,po,tt,D,ops,pl,mk,rfl,⟨pt,ut,rfl,VF,UO⟩,UU,hW,⟨kvs,a,b,UK,vp,vm,ha,hb,lp,lm,hwd⟩,Vb,UJ,q⟩:=h;have hu:=eo hr;have w4:=hW.w4;have w24:=hW.w24;refine⟨_,(ac (bL (i:=4) Rg.nd (aH aR (aB aU (aP (aa ai (aa ai ab))) (aY eZ (by rfl) B.int LC (aa (cb aX (aB aJ (pv 0) af) ai) ab))) ai)) (ac (bL (i:=5) Rg.nd (aB aU (bx hu (pv 2) (pv 4)) (ax LN hr rfl (aa (aB aJ (pv 0) af) (aa (pv 3) ab))))) (ac (aT (aq aX (aB aJ (pv 0) af) ai) (ag (aw (cb aX (aH Ep (pv 5) (aH cU (bx hu (pv 1) ai) af)) af))) aG) (ag (aw (cb iP (pv 5) af)))))),?_⟩;refine⟨OT,fun l0 n0=>?_⟩;generalize zz:aM H l0 _=H1;have⟨s1,e1⟩:=nw n0 zz;clear zz;have Yo:(xx tt).length+("s":Str).length<=sizeLine:=by rcases zY tt with e|e<;>rw[e]<;>decide +kernel
  refine⟨_,rfl,pt,_,_,_,rfl,rfl,ON.of (s1 _ _ VF),rfl,rfl,.inr ⟨_,rfl,?_⟩⟩;rw[wn];refine⟨l0,_,_,_,rfl,rfl,OO.of e1,DQ tt,_,_,rfl,rfl,Yo,?_⟩;have hdg:∃ar,Pj H1 st (.str (xx tt++"s")) (some (.ref ar))/\H1 ar=some (.lst (aW (if dL tt=true then mk else pl))):=by
   cases tt with
   |mk x n=>exact⟨b,bA (s1 _ _ UK) (by rw[Gb];exact vm),s1 _ _ hb⟩
   |top x n=>exact⟨a,bA (s1 _ _ UK) (by rw[Db];exact vp),s1 _ _ ha⟩
   |pl x n=>exact⟨a,bA (s1 _ _ UK) (by rw[Gc];exact vp),s1 _ _ ha⟩
  obtain⟨ar,hg,har⟩:=hdg;have hn:nu ops tt<if dL tt=true then mk.length else pl.length:=by
   have:=UJ.2;unfold mY at this
   rwa [lp,lm]
  refine⟨_,rfl,_,rfl,st,_,rfl,hg,_,rfl,pt,_,_,_,rfl,rfl,ON.of (s1 _ _ VF),rfl,_,rfl,ut,po,tt,ops,rfl,UO.kt (av s1),s1 _ _ Vb,UJ.1,ar,_,_,_,rfl,rfl,OO.of har,bf (D0 hn),?_⟩;refine⟨_,rfl,pt,_,_,_,rfl,rfl,ON.of (s1 _ _ VF),rfl,rfl,_,rfl,?_⟩;have q1:=q H1 s1;cases tt with
  |top x n=>
   obtain⟨kv,lp',lm',hd,vw,_⟩:=UU;refine bF (a_ rfl) ⟨_,rfl,_,rfl,d,_,rfl,bA (s1 _ _ hd) vw,_,_,rfl,rfl,_,_,rfl,rfl,by lia,rfl,?_⟩;rw[J2 (by lia)];have MP:gS ops (sf pl mk) (.top x n)<2^D.width:=by
    have e:=D0 hn;unfold aW at e;rw[KZ]at e;have hx:nu ops (.top x n)<pl.length:=hn;rw[show(if dL (.top x n)=true then mk else pl)=pl from rfl,KF hx]at e;have e2:((pl[nu ops (.top x n)]:Nat):Int)=(gS ops (sf pl mk) (.top x n):Nat):=V.int.inj (Lc e);have:=hwd _ (Lo hx);lia
   have:decide (V.int ((gS ops (sf pl mk) (.top x n) / 2^(D.width-1):Nat):Int)=V.int 1)=Ps (tT D) ops (sf pl mk) (.top x n):=by
    have hp:2^D.width=2*2^(D.width-1):=by
     obtain⟨k,hk⟩:∃k,D.width=k+1:=⟨D.width-1,by lia⟩;rw[hk,Mm,Nat.add_sub_cancel];lia
    have hp0:0<2^(D.width-1):=Mt zd;unfold Ps;by_cases h:2^(D.width-1)<=gS ops (sf pl mk) (.top x n)
    ·have h1:gS ops (sf pl mk) (.top x n) / 2^(D.width-1)=1:=by
      refine Nat.le_antisymm (Nat.le_of_lt_succ (Nat.div_lt_of_lt_mul (by lia))) ((Nat.le_div_iff_mul_le hp0).mpr (by lia))
     rw[h1,a_ (show V.int ((1:Nat):Int)=V.int 1 from rfl),a_ (show j9 (tT D) (.top x n)<=_ from h)]
    ·have h0:gS ops (sf pl mk) (.top x n) / 2^(D.width-1)=0:=Nat.div_eq_of_lt (by lia);rw[h0,b_ (show¬V.int ((0:Nat):Int)=V.int 1 from by decide),b_ (show¬j9 (tT D) (.top x n)<=_ from h)]
   rw[this];exact q1
  |pl x n=>
   refine bi (by show decide (V.str Sn=V.str Ta)=false;decide +kernel) ⟨_,rfl,rfl,?_⟩;have:(!decide (V.int (gS ops (sf pl mk) (.pl x n):Nat)=V.int 0))=Ps (tT D) ops (sf pl mk) (.pl x n):=by
    unfold Ps;by_cases h:1<=gS ops (sf pl mk) (.pl x n)
    ·rw[b_ (fun z=>by have:=V.int.inj z;lia),a_ (show j9 (tT D) (.pl x n)<=_ from h)];rfl
    ·rw[a_ (d_ V.int (by lia)),b_ (show¬j9 (tT D) (.pl x n)<=_ from h)];rfl
   rw[this];exact q1
  |mk x n=>
   refine bi (by show decide (V.str Su=V.str Ta)=false;decide +kernel) ⟨_,rfl,rfl,?_⟩;have:(!decide (V.int (gS ops (sf pl mk) (.mk x n):Nat)=V.int 0))=Ps (tT D) ops (sf pl mk) (.mk x n):=by
    unfold Ps;by_cases h:1<=gS ops (sf pl mk) (.mk x n)
    ·rw[b_ (fun z=>by have:=V.int.inj z;lia),a_ (show j9 (tT D) (.mk x n)<=_ from h)];rfl
    ·rw[a_ (d_ V.int (by lia)),b_ (show¬j9 (tT D) (.mk x n)<=_ from h)];rfl
   rw[this];exact q1
end
def wC(l:List Pa):(l.map ((tt,b)::·)).map (pre++·)=l.map ((pre++[(tt,b)])++·):=by
 rw[Lz];refine E_ fun q _=>?_;simp
def wD{H1 H2 H3:Hp}(s0:OM H0 H)(h:H al=some (.lst us))(hp:Paired (QB H) us pre)(ht:Q0 H tt u)(nt:H lt=none)(e1:aM H lt (.tup [u,.bl b])=H1)(n1:H1 l1=none)(e2:aM H1 l1 (.lst [.ref lt])=H2)(nc:H2 lc=none)(e3:aM H2 lc (.lst (us++[.ref lt]))=H3):OM H H3/\PU H0 H3 (.ref lc) (pre++[(tt,b)]):=by
 have sa:=(nw nt e1).1;have ta:=(nw nt e1).2;have sb:=(nw n1 e2).1;have sc:=(nw nc e3).1;have s3:=(sa.trans sb).trans sc;refine⟨s3,lc,_,rfl,none_of s0 (none_of (sa.trans sb) nc),(nw nc e3).2,?_⟩;exact eu (R:=QB H3) ⟨lt,u,rfl,(sb.trans sc) _ _ ta,ht.kt (av s3)⟩ (bD (fun _ _ h=>QB.kt (av s3) h) hp)
section
def Ih:az [Sq,Tj] [Sq,Tj] (ak oY):=cv zk
def mQ(F:O0 K "_law_tests" "_law_tests" oY f fd)(LT:Fn P w K mg base "_law_tests" n [Sq,Tj] (sC m)):OQ P w K mg base bQ (n+1) f fd [Sq,Tj] (sC (m+1)):=by
 have ZZ:=Ih
 walk_at "o"
 ·obtain⟨H0,v,ah,d,pre,rfl,s0,hd,hah,hm,Yf,Vc,q⟩:=h;have sz:(100000:Nat)<=sizeLine:=by decide
  refine⟨_,(ac (aT (aq aX (aB aJ (pv 0) af) ai) (ag (aw (aP (aa (pv 1) ab)))) aG) (ag (aw (aH dA (ax LT hr rfl (aa (aB aJ (pv 0) af) (aa (aH dA (pv 1) (aP (aa (aK (aa (aB aJ (pv 0) af) (aa fH ab))) ab))) ab))) (ax LT hr rfl (aa (aB aJ (pv 0) af) (aa (aH dA (pv 1) (aP (aa (aK (aa (aB aJ (pv 0) af) (aa fH ab))) ab))) ab))))))),?_⟩;cases d with
  |leaf ss e=>
   obtain⟨p,q',us,u,rfl,hp,_⟩:=hd;refine⟨_,rfl,p,_,_,_,rfl,rfl,ON.of hp,rfl,rfl,_,rfl,bF (a_ rfl) ?_⟩;refine⟨_,rfl,OT,fun l1 n1=>?_⟩;have s1:=aj (o:=.lst [ah]) n1;refine q _ _ s1 ⟨l1,_,rfl,none_of s0 n1,ae,.cons ?_ .nil⟩;show PU H0 _ ah (pre++[]);rw[Lm];exact hah.same s1
  |ite tt y n=>
   obtain⟨p,u,a,b,rfl,hp,ht,hy,hn⟩:=hd;obtain⟨al,ua,rfl,nal,hal,YJ⟩:=id hah;have lua:=YJ.length;cases m with
   |zero=>exact absurd hm (by simp[gl])
   |succ m=>
    have Vs:gl y<=m:=by simp only[gl]at hm;lia
    have YM:gl n<=m:=by simp only[gl]at hm;lia
    refine⟨_,rfl,p,_,_,_,rfl,rfl,ON.of hp,rfl,rfl,_,rfl,bi (by show decide (V.str Ub=V.str "leaf")=false;decide +kernel) ?_⟩;refine⟨_,rfl,p,_,_,_,rfl,rfl,ON.of hp,rfl,_,rfl,_,rfl,p,_,_,_,rfl,rfl,ON.of hp,rfl,OT,fun lt nt=>⟨OT,fun l1 n1=>?_⟩⟩;have sx:=(aj (o:=.tup [u,.bl true]) nt).trans (aj (o:=.lst [.ref lt]) n1);refine⟨al,l1,_,_,rfl,rfl,sx _ _ hal,ae,by show ua.length+1<=sizeLine;lia,fun lc nc=>?_⟩;obtain⟨s3,hP3⟩:=wD s0 hal YJ ht nt rfl n1 rfl nc rfl;generalize aM (aM (aM H lt (.tup [u,.bl true])) l1 (.lst [.ref lt])) lc (.lst (ua++[.ref lt]))=H3 at s3 hP3⊢;refine⟨H0,a,_,y,_,rfl,s0.trans s3,hy.kt (av s3),hP3,Vs,by lia,by rw[Kz];simp;lia,fun u4 H4 s4 hZZ=>?_⟩;obtain⟨l4,Xt,e4,n4,ZA,XA⟩:=hZZ;subst e4;have U7:=s3.trans s4;have hal4:=U7 _ _ hal;have hua4:=bD (fun _ _ h=>QB.kt (av U7) h) YJ;refine⟨_,rfl,p,_,_,_,rfl,rfl,ON.of (U7 _ _ hp),rfl,_,rfl,_,rfl,p,_,_,_,rfl,rfl,ON.of (U7 _ _ hp),rfl,OT,fun lt' nt'=>⟨OT,fun l1' n1'=>?_⟩⟩;have sx':=(aj (o:=.tup [u,.bl false]) nt').trans (aj (o:=.lst [.ref lt']) n1');refine⟨al,l1',_,_,rfl,rfl,sx' _ _ hal4,ae,by show ua.length+1<=sizeLine;lia,fun lc' nc'=>?_⟩;obtain⟨s5,hP5⟩:=wD (s0.trans U7) hal4 hua4 (ht.kt (av U7)) nt' rfl n1' rfl nc' rfl;generalize aM (aM (aM H4 lt' (.tup [u,.bl false])) l1' (.lst [.ref lt'])) lc' (.lst (ua++[.ref lt']))=H5 at s5 hP5⊢;have s05:=U7.trans s5;refine⟨H0,b,_,n,_,rfl,s0.trans s05,hn.kt (av s05),hP5,YM,by lia,by rw[Kz];simp;lia,fun u6 H6 s6 hZZ=>?_⟩;obtain⟨l6,us6,e6,n6,hl6,X7⟩:=hZZ;subst e6;have VS:=s5.trans s6;have ln4:=XA.length;have ln6:=X7.length;rw[Ky]at ln4 ln6;have pl1:=fP y;have pl2:=fP n;have pw1:2^gl y<=2^10:=K0 zd (by lia);have pw2:2^gl n<=2^10:=K0 zd (by lia);refine⟨l4,l6,_,_,rfl,rfl,VS _ _ ZA,hl6,by lia,fun lr nr=>?_⟩;have s7:=aj (o:=.lst (Xt++us6)) nr;have Wn:=(U7.trans VS).trans s7;refine q _ _ Wn ⟨lr,_,rfl,none_of (s0.trans (U7.trans VS)) nr,ae,?_⟩;unfold fB;rw[KJ,wC,wC];exact vi (bD (fun _ _ h=>PU.same h (VS.trans s7)) XA) (bD (fun _ _ h=>PU.same h s7) X7)
def Ii:az [Sq,Th,Si,SU,Sl] [Sq,Th,Si,SU,Sl] (ak tU):=cv zk
def qw(F:O0 K "_law_leaf" "_law_leaf" tU f fd)(B:Bl mg)(LH:Fn P w K mg base "_law_holds" 2 [Tw,Si,SU,Sl] AR)(LT:Fn P w K mg base "_law_tests" n0 [Sq,Tj] (sC 5))(LF:Fn P w K mg base "_law_leaf" n [Sq,Th,Si,SU,Sl] (sD m))(hn:n0<=n)(X9:2<=n):OQ P w K mg base bQ (n+1) f fd [Sq,Th,Si,SU,Sl] (sD (m+1)):=by
 have ZZ:=Ii
 walk_at "o"
 ·obtain⟨v,k,d,st,po,dd,D,ops,pl,mk,rfl,hd,hm,h4,UU,hW,hS,Vb,UJ,q⟩:=h;have MF:OU 2 _:=hr.mono (by lia);have hrt:OU n0 _:=hr.mono hn;refine⟨_,(ac (aT (aq aX (aB aJ (pv 0) af) ai) (ag (aw (pv 1))) aG) (ac (aT (bT (ax LH MF rfl (aa (aB aJ (pv 0) af) (aa (pv 2) (aa (pv 3) (aa (pv 4) ab)))))) (ag (aw (ax LF hr rfl (aa (aB aJ (pv 0) af) (aa (pv 1) (aa (pv 2) (aa (pv 3) (aa (pv 4) ab)))))))) aG) (ag (aw (ax LF hr rfl (aa (aB aJ (pv 0) af) (aa (aH bX (pv 1) (aI aL (by rfl) B.len KW (aa (ax LT hrt rfl (aa (aB aJ (pv 0) af) (aa (aP ab) ab))) ab))) (aa (pv 2) (aa (pv 3) (aa (pv 4) ab)))))))))),?_⟩;cases dd with
  |leaf ss e=>
   obtain⟨p,q',us,u,rfl,hp,_⟩:=hd;refine⟨_,rfl,p,_,_,_,rfl,rfl,ON.of hp,rfl,rfl,_,rfl,bF (a_ rfl) ⟨_,rfl,?_⟩⟩;exact q H (OM.refl _)
  |ite tt y n'=>
   obtain⟨p,u,a,b,rfl,hp,ht,hy,Zw⟩:=hd;cases m with
   |zero=>exact absurd hm (by simp[gl])
   |succ m=>
    have Vs:gl y<=m:=by simp only[gl]at hm;lia
    have YM:gl n'<=m:=by simp only[gl]at hm;lia
    refine⟨_,rfl,p,_,_,_,rfl,rfl,ON.of hp,rfl,rfl,_,rfl,bi (by show decide (V.str Ub=V.str "leaf")=false;decide +kernel) ?_⟩;refine⟨_,rfl,p,_,_,_,rfl,rfl,ON.of hp,rfl,_,rfl,_,rfl,_,rfl,u,d,st,po,tt,D,ops,pl,mk,rfl,ht,UU,hW,hS,Vb,UJ.1,fun H1 s1=>⟨_,rfl,?_⟩⟩;unfold qe at q;cases hh:Ps (tT D) ops (sf pl mk) tt with
    |true=>
     rw[hh,f_ rfl]at q;exact fC ⟨_,rfl,p,_,_,_,rfl,rfl,ON.of (s1 _ _ hp),rfl,_,rfl,_,rfl,_,rfl,_,rfl,a,k,d,st,po,y,D,ops,pl,mk,rfl,hy.kt (av s1),Vs,by lia,UU.same' s1,hW,hS.same s1,s1 _ _ Vb,UJ.2.1,fun H2 s2=>q H2 (s1.trans s2)⟩
    |false=>
     rw[hh,e_ zd]at q;refine bP ⟨_,rfl,p,_,_,_,rfl,rfl,ON.of (s1 _ _ hp),rfl,_,rfl,_,rfl,p,_,_,_,rfl,rfl,ON.of (s1 _ _ hp),rfl,OT,fun l2 n2=>?_⟩;have s2:=aj (o:=.lst []) n2;have MO:=s1.trans s2;refine⟨H1,a,_,y,[],rfl,s2,hy.kt (av MO),⟨l2,_,rfl,n2,ae,.nil⟩,(show gl y<=4 by lia),(show 4<=10 by decide),(show 0+4<=20 by decide),fun u3 H3 s3 hZZ=>?_⟩;obtain⟨l3,WL,e3,n3,X',hq3⟩:=hZZ;subst e3;have U5:=MO.trans s3;have ln3:=hq3.length;rw[Ky]at ln3;refine⟨l3,_,rfl,.inl (OO.of X'),_,_,rfl,rfl,_,rfl,_,rfl,_,rfl,b,k+(fB y).length,d,st,po,n',D,ops,pl,mk,?_,Zw.kt (av U5),YM,by lia,UU.same' U5,hW,hS.same U5,U5 _ _ Vb,UJ.2.2,fun H4 s4=>?_⟩
     ·rw[ln3];rfl
     ·have:=q H4 (U5.trans s4)
      rwa [<-Nat.add_assoc]at this
end
def J3(va vb:V):∃kv,eC [] [(kS So,va),(kS Ss,vb)]=kv/\bq kv (kS So)=some va/\bq kv (kS Ss)=some vb:=by
 refine⟨_,rfl,?_,?_⟩
 ·show bq (bz (bz [] (kS So) va) (kS Ss) vb) _=_;rw[bR zk,eP]
 ·show bq (bz (bz [] (kS So) va) (kS Ss) vb) _=_;rw[eP]
def qy{kv:List (cQ×V)}(n:H p=none)(e:aM (aM H p (.dK [])) p (.dK kv)=H'):OM H H'/\H' p=some (.dK kv):=by
 subst e;exact⟨fun b o h=>by rw[au (ao h n),au (ao h n)];exact h,ae⟩
def qz(hb:dL t=b)(hi:nu ops t<n):(aW (fl f b n)).set (nu ops t) (.int (max (j9 T t) (gS ops f t):Nat))=aW (fl (du T ops f t) b n):=by
 subst hb;rw[<-Ax (g:=du T ops f t) (b:=dL t) hi (fun j h=>vf h),u9];unfold aW;rw[List.map_set]
def qA(hb:dL t=!b):aW (fl f b n)=aW (fl (du T ops f t) b n):=by
 have e:b=!dL t:=by rw[hb,Bool.not_not]
 subst e;rw[qf (g:=du T ops f t) (b:=!dL t) (fun j=>vh)]
def J4(z:Nat):(if(1:Int)>(z:Int)then(1:Int)else(z:Int))=((max 1 z:Nat):Int):=by split<;>lia
inductive AV(vs:Uv)(H:Hp)(Q:VK)(Z3:XK):Prop
 |mk(tl d po:Ul)(us:Uv)(pa:Pa)(D:Fm)(ops:Ut):vs=[.ref tl,.ref d,.ref po]->H tl=some (.lst us)->Paired (QB H) us pa->DY H d D->DZ D->H po=some (.tup (aW ops))->(∀z∈pa,C5 D ops z.1)->(∀st H',OM H H'->Ro D H' st (fl (cL (tT D) ops pa) false D.places.length) (fl (cL (tT D) ops pa) true D.marks.length)->Q (.ref st) H')->AV vs H Q Z3
def AW(h:4<=D.width):tT D<2^D.width/\8<=tT D:=by
 unfold tT;refine⟨Nat.pow_lt_pow_right zd (by lia),?_⟩;have:2^3<=2^(D.width-1):=K0 zd (by lia);lia
def D1(h:P1 (tT D) f)(hw:4<=D.width):∀w∈fl f false n,w<2^D.width:=by
 intro w h';obtain⟨i,_,rfl⟩:=K4.mp h';have:=AW hw;rcases h.1 i with e|e|e<;>rw[e]<;>lia
inductive JW(H:Hp)(tl d po lp lm:Ul)(D:Fm)(ops:Ut)(f:Sf)(σ:St)(H':Hp):Prop
 |mk(v5 v6 v7 v8:Option V):σ=[some (.ref tl),some (.ref d),some (.ref po),some (.ref lp),some (.ref lm),v5,v6,v7,v8]->OM H H'->H' lp=some (.lst (aW (fl f false D.places.length)))->H' lm=some (.lst (aW (fl f true D.marks.length)))->JW H tl d po lp lm D ops f σ H'
section
def Qd:az [S6,Si,Sl,"_law_places","_law_marks",SJ,SM,Tz,"_law_at"] [S6,Si,Sl] (ak oZ):=cv zk
def Gf(F:O0 K "_law_words" "_law_words" oZ f fd)(B:Bl mg)(LN:Fn P w K mg base "_law_number" 1 [SM,Sl] qv):OQ P w K mg base bQ 2 f fd [S6,Si,Sl] AV:=by
 have ZZ:=Qd
 walk_at "o"
 ·obtain⟨tl,d,po,us,pa,D,ops,rfl,WQ,ML,UU,hW,Vb,UJ,q⟩:=h;have hu:=eo hr;have w4:=hW.w4;have w24:=hW.w24;have p4:=hW.p4;have m3:=hW.m3;obtain⟨kvs,Zl,Zm,hd,vw,vp,vm,Zy,Zz⟩:=id UU;have W5:=ML.length;refine⟨_,(ac (bL (i:=3) Qd.nd (aH kW (aP (aa af ab)) (aI aL (by rfl) B.len KW (aa (bx hu (pv 1) ai) ab)))) (ac (bL (i:=4) Qd.nd (aH kW (aP (aa af ab)) (aI aL (by rfl) B.len KW (aa (bx hu (pv 1) ai) ab)))) (ac (cc g_ rfl (cm (pv 0)) (cr rfl (aA (cr rfl (aA (cq (i:=5) Qd.nd) (aA (cq (i:=6) Qd.nd) br))) (aA (cq (i:=7) Qd.nd) br))) (ac (bL (i:=8) Qd.nd (ax LN hr rfl (aa (pv 6) (aa (pv 2) ab)))) (ag (aT (PW.pt (ck (bT (pv 7)) (bM (aq aX (pv 5) ai)))) (ag (df af (iq (pv 4) (pv 8) fj))) (ag (aT (PW.pt (ck (bT (pv 7)) (bM (aq aX (pv 5) ai)))) (ag (df (aH gq af (aH cU (bx hu (pv 1) ai) af)) (iq (pv 3) (pv 8) fj))) (ag (aT (bT (pv 7)) (ag (df (aI (gT rfl) (by rfl) B.max B_ (aa (aB aU (pv 3) (pv 8)) (aa af ab))) (iq (pv 3) (pv 8) fj))) aG)))))))) (ag (aw (iZ (cI ai (pv 3) (cI ai (pv 4) iY)) rfl rfl (by intro z;cases z) (by show 2<=15;decide))))))),?_⟩;refine⟨OT,fun l0 n0=>?_⟩;generalize zz:aM H l0 _=H1;have⟨s1,e1⟩:=nw n0 zz;clear zz;refine⟨_,rfl,d,_,rfl,bA (s1 _ _ hd) vp,Zl,_,rfl,.inl (OO.of (s1 _ _ Zy)),jp (n:=D.places.length) (by unfold ay;rw[Ky]) (by lia) e1 fun lp np=>?_⟩;generalize zz:aM H1 lp _=H2;have⟨Vy,ep⟩:=nw np zz;clear zz;have s2:=s1.trans Vy;refine⟨OT,fun l0 n0=>?_⟩;generalize zz:aM H2 l0 _=H3;have⟨Vo,e3⟩:=nw n0 zz;clear zz;have s3:=s2.trans Vo;refine⟨_,rfl,d,_,rfl,bA (s3 _ _ hd) vm,Zm,_,rfl,.inl (OO.of (s3 _ _ Zz)),jp (n:=D.marks.length) (by unfold ay;rw[Ky]) (by lia) e3 fun lm nm=>?_⟩;generalize zz:aM H3 lm _=H4;have⟨s4',em⟩:=nw nm zz;clear zz;have s4:=s3.trans s4';have ep4:=(Vo.trans s4') _ _ ep;have pm:lp≠lm:=ao (Vo _ _ ep) nm;have Zi:H lp=none:=none_of s1 np;have Zj:H lm=none:=none_of s3 nm;refine⟨_,rfl,tl,rfl,⟨_,OO.of (s4 _ _ WQ)⟩,?_⟩;refine dN (K:=K) (a:=tl) (xs:=us) (fun i σ H'=>JW H tl d po lp lm D ops (cL (tT D) ops (pa.take i)) σ H') ⟨_,_,_,_,rfl,s4,by rw[show cL (tT D) ops (pa.take 0)=fun _ _=>0 from rfl,kL];exact ep4,by rw[show cL (tT D) ops (pa.take 0)=fun _ _=>0 from rfl,kL];exact em⟩ (fun i σ H' _⟨_,_,_,_,_,s',_,_⟩=>OO.of (s' _ _ WQ)) ?_ ?_
  ·rintro i z σ H5 hz ⟨v5,v6,v7,v8,rfl,s5,Wk,Ww⟩;obtain⟨⟨tt,b⟩,hx,pt,u,rfl,VF,⟨pu,Xu,rfl,hpu,UO⟩⟩:=dB ML hz;have hs:=UJ _ (KQ hx);have hi5:=P1.letA (ops:=ops) jX (pa.take i) _ (P1.zero (T:=tT D));have et:cL (tT D) ops (pa.take (i+1))=if b=true then du (tT D) ops (cL (tT D) ops (pa.take i)) tt else cL (tT D) ops (pa.take i):=by
    have:pa.take (i+1)=pa.take i++[(tt,b)]:=by rw[k_,hx];rfl
    unfold cL;rw[this,jY]
   refine⟨pt,_,rfl,ON.of (s5 _ _ VF),rfl,_,_,rfl,⟨pu,_,rfl,ON.of (s5 _ _ hpu),rfl,_,_,rfl,_,_,rfl,rfl,_,_,rfl,rfl,?_⟩⟩;refine⟨_,rfl,_,rfl,Xu,po,tt,ops,rfl,UO.kt (av s5),s5 _ _ Vb,hs.1,?_⟩;have hn:=hs.2;unfold mY at hn;have fS:∀{x o},x=lp\/x=lm->OM H (aM H5 x o):=fun{x o}hx a o' e=>by
    rw[au (by rcases hx with rfl|rfl;exact ao e Zi;exact ao e Zj)];exact s5 _ _ e
   cases b with
   |false=>
    rw[e_ zd]at et;refine⟨_,rfl,_,rfl,bP (bP ⟨_,rfl,_,rfl,bP (bP ⟨_,rfl,_,rfl,bP ⟨_,_,_,_,rfl,s5,?_,?_⟩⟩)⟩)⟩
    ·rw[et];exact Wk
    ·rw[et];exact Ww
   |true=>
    rw[f_ rfl]at et;cases tt with
    |mk x n=>
     refine⟨_,rfl,_,rfl,fC ⟨_,rfl,rfl,_,rfl,bF (a_ rfl) ?_⟩⟩;have hw1:=AK (ops:=ops) (t:=.mk x n) hi5 rfl;have e2:=qz (T:=tT D) (f:=cL (tT D) ops (pa.take i)) (t:=.mk x n) (ops:=ops) (n:=D.marks.length) rfl hn;rw[show max (j9 (tT D) (.mk x n)) (gS ops (cL (tT D) ops (pa.take i)) (.mk x n))=1 from R4 hw1]at e2;refine⟨_,rfl,_,rfl,lm,_,_,_,rfl,rfl,Ww,jq (by unfold aW;rw[Ky,dX];exact hn),⟨_,_,_,_,rfl,fS (.inr rfl),?_,?_⟩⟩
     ·rw[au pm,Wk,et];exact d_ (fun z=>some (HO.lst z)) (qA rfl)
     ·rw[ae,et];exact d_ (fun z=>some (HO.lst z)) e2
    |top x n=>
     refine⟨_,rfl,_,rfl,fC ⟨_,rfl,rfl,_,rfl,bi (by show decide (V.str Ta=V.str Su)=false;decide +kernel) ?_⟩⟩;refine⟨_,rfl,_,rfl,fC ⟨_,rfl,rfl,_,rfl,bF (a_ rfl) ?_⟩⟩;have hwT:gS ops (cL (tT D) ops (pa.take i)) (.top x n)<=tT D:=by
      have:=hi5.1 (nu ops (.top x n));have:=AW w4;show cL (tT D) ops (pa.take i) false (nu ops (.top x n))<=tT D;unfold cL;lia
     have e2:=qz (T:=tT D) (f:=cL (tT D) ops (pa.take i)) (t:=.top x n) (ops:=ops) (n:=D.places.length) rfl hn;rw[show max (j9 (tT D) (.top x n)) (gS ops (cL (tT D) ops (pa.take i)) (.top x n))=tT D from R4 hwT]at e2;refine⟨_,rfl,d,_,rfl,bA (s5 _ _ hd) vw,_,_,rfl,rfl,_,_,rfl,rfl,⟨by lia,by lia,zd⟩,_,rfl,_,rfl,lp,_,_,_,rfl,rfl,Wk,jq (by unfold aW;rw[Ky,dX];exact hn),⟨_,_,_,_,rfl,fS (.inl rfl),?_,?_⟩⟩
     ·rw[ae,et,IG (by lia)];exact d_ (fun z=>some (HO.lst z)) e2
     ·rw[au pm.symm,Ww,et];exact d_ (fun z=>some (HO.lst z)) (qA rfl)
    |pl x n=>
     refine⟨_,rfl,_,rfl,fC ⟨_,rfl,rfl,_,rfl,bi (by show decide (V.str Sn=V.str Su)=false;decide +kernel) ?_⟩⟩;refine⟨_,rfl,_,rfl,fC ⟨_,rfl,rfl,_,rfl,bi (by show decide (V.str Sn=V.str Ta)=false;decide +kernel) ?_⟩⟩;refine⟨_,rfl,_,rfl,fC ?_⟩;have e2:=qz (T:=tT D) (f:=cL (tT D) ops (pa.take i)) (t:=.pl x n) (ops:=ops) (n:=D.places.length) rfl hn;refine⟨_,rfl,_,rfl,lp,_,_,_,rfl,rfl,OO.of Wk,bf (uZ hn),_,_,rfl,_,rfl,_,rfl,lp,_,_,_,rfl,rfl,Wk,jq (by unfold aW;rw[Ky,dX];exact hn),⟨_,_,_,_,rfl,fS (.inl rfl),?_,?_⟩⟩
     ·rw[ae,et];refine Eq.trans ?_ (d_ (fun z=>some (HO.lst z)) e2);refine d_ (fun z=>some (HO.lst (List.set _ _ (V.int z)))) ?_;exact J4 _
     ·rw[au pm.symm,Ww,et];exact d_ (fun z=>some (HO.lst z)) (qA rfl)
  ·rintro σ H5 ⟨v5,v6,v7,v8,rfl,s5,Wk,Ww⟩;rw[W5,K7]at Wk Ww;have hi5:=P1.letA (ops:=ops) jX pa _ (P1.zero (T:=tT D));refine fun st YF=>?_;obtain⟨kv,ek,k1,k2⟩:=J3 (.ref lp) (.ref lm);refine⟨_,rfl,_,rfl,ae,[(Sum.inr So,.ref lp),(Sum.inr Ss,.ref lm)],rfl,by show 2<=15;decide,?_⟩;have WY:eC [] [(Sum.inr So,V.ref lp),(Sum.inr Ss,V.ref lm)]=kv:=ek;rw[WY];generalize zz:aM _ st (HO.dK kv)=H6;obtain⟨s6,e6⟩:=qy YF zz;exact q st H6 (s5.trans s6) ⟨kv,lp,lm,e6,k1,k2,s6 _ _ Wk,s6 _ _ Ww,dX,dX,D1 hi5 w4⟩
end
inductive IH(H0 H:Hp)(v:V)(r:Ut):Prop
 |mk(a:Ul):v=.ref a->H0 a=none->H a=some (.lst (aW r))->IH H0 H v r
inductive AX(vs:Uv)(H:Hp)(Q:VK)(Z3:XK):Prop
 |mk(lw:Ul)(ws:Ut)(k:Nat):vs=[.ref lw,.int k]->H lw=some (.lst (aW ws))->1<=ws.length->ws.length<=3->k<=4->(∀l us H',OM H H'->H l=none->H' l=some (.lst us)->Paired (IH H H') us (fG ws k)->Q (.ref l) H')->AX vs H Q Z3
def vk{L k:Nat}(h3:L<=3)(h4:k<=4):L^k<=81:=by
 have h1:L^k<=3^k:=Nat.pow_le_pow_left h3 k;have h2:3^k<=3^4:=K0 zd h4;lia
def xJ(h:i<ws.length^k):((fG ws k).take (i+1))=(fG ws k).take i++[mJ ws k i]:=by
 unfold fG;rw[k_,KZ,List.getElem?_range h];rfl
inductive JB(H0:Hp)(lw lf:Ul)(ws:Ut)(k i:Nat)(σ:St)(H':Hp):Prop
 |mk(us:Uv)(v4 v5 v6:Option V):σ=[some (.ref lw),some (.int k),some (.ref lf),some (.int (ws.length^k:Nat)),v4,v5,v6]->OM H0 H'->H' lf=some (.lst us)->Paired (IH H0 H') us ((fG ws k).take i)->(∀v∈us,v≠.ref lf)->JB H0 lw lf ws k i σ H'
inductive JC(H1:Hp)(lw lf lr:Ul)(ws:Ut)(k i j:Nat)(σ:St)(H':Hp):Prop
 |mk(v4:Option V)(n:Nat)(r:Ut):σ=[some (.ref lw),some (.int k),some (.ref lf),some (.int (ws.length^k:Nat)),v4,some (.int n),some (.ref lr)]->OM H1 H'->H' lr=some (.lst (aW r))->r.length=j->r++mJ ws (k-j) n=mJ ws k i->JC H1 lw lf lr ws k i j σ H'
def Ij{α β:Type}{R R':α->β->Prop}:∀{xs:List α}{ys:List β},Paired R xs ys->(∀x y,x∈xs->R x y->R' x y)->Paired R' xs ys
 |_,_,.nil,_=>.nil
 |_,_,.cons h t,f=>.cons (f _ _ KB h) (Ij t fun x y hx=>f x y (KM _ hx))
section
def PN:az [SD,"_law_long",T9,SB,Tk,Te,"_law_row"] [SD,"_law_long"] (ak yF):=cv zk
def Gg(F:O0 K "_law_all" "_law_all" yF f fd)(B:Bl mg):OQ P w K mg base bQ 1 f fd [SD,"_law_long"] AX:=by
 have ZZ:=PN
 walk_at "o"
 ·obtain⟨lw,ws,k,rfl,YN,h1,h3,h4,q⟩:=h;have sz:(100000:Nat)<=sizeLine:=by decide
  have YH:(aW ws).length=ws.length:=by unfold aW;rw[Ky]
  refine⟨_,(ac (bL (i:=2) PN.nd (aP ab)) (ac (bL (i:=3) PN.nd af) (ac (cc g_ rfl (dF rfl B.range (aa (pv 1) ab)) (cq (i:=4) PN.nd) (ag (bL (i:=3) PN.nd (aH gp (pv 3) (aI aL (by rfl) B.len KW (aa (pv 0) ab)))))) (ac (cc g_ rfl (dF rfl B.range (aa (pv 3) ab)) (cq (i:=5) PN.nd) (ac (bL (i:=6) PN.nd (aP ab)) (ac (cc g_ rfl (dF rfl B.range (aa (pv 1) ab)) (cq (i:=4) PN.nd) (ac (aQ (ci KU KS KR bv (pv 6) (aa (aB aU (pv 0) (aH fg (pv 5) (aI aL (by rfl) B.len KW (aa (pv 0) ab)))) ab))) (ag (bL (i:=5) PN.nd (aH oq (pv 5) (aI aL (by rfl) B.len KW (aa (pv 0) ab))))))) (ag (aQ (ci KU KS KR bv (pv 2) (aa (pv 6) ab))))))) (ag (aw (pv 2))))))),?_⟩;refine⟨OT,fun lf nf=>?_⟩;generalize zz:aM H lf _=H1;have⟨s1,ef⟩:=nw nf zz;clear zz;refine⟨_,rfl,_,rfl,by lia,by lia,?_⟩;rw[show((k:Int)).toNat=k from Lu k];refine dG (lo:=0) (n:=k) (fun i σ H'=>∃v4:Option V,σ=[some (.ref lw),some (.int k),some (.ref lf),some (.int (ws.length^i:Nat)),v4,none,none]/\H'=H1) ⟨_,rfl,rfl⟩ ?_ ?_
  ·rintro i σ H' hi ⟨v4,rfl,rfl⟩;have p81:=vk (k:=i) h3 (by lia);refine⟨_,rfl,_,rfl,lw,_,rfl,.inl (OO.of (s1 _ _ YN)),_,_,rfl,rfl,.inl ⟨by lia,by lia⟩,?_⟩;refine⟨some (.int (0+(i:Int))),d_ (fun z=>[some (V.ref lw),some (V.int k),some (V.ref lf),some (V.int z),some (V.int (0+(i:Int))),none,none]) ?_,rfl⟩;rw[YH,Mm]
   norm_cast
  ·rintro σ H' ⟨v4,rfl,rfl⟩;have p81:=vk (k:=k) h3 h4;refine⟨_,rfl,_,rfl,by lia,by lia,?_⟩;rw[show(((ws.length^k:Nat):Int)).toNat=ws.length^k from Lu _];refine dG (lo:=0) (n:=ws.length^k) (fun i σ H'=>JB H lw lf ws k i σ H') ⟨_,_,_,_,rfl,s1,ef,.nil,fun v h=>by cases h⟩ ?_ ?_
   ·rintro i σ H2 hi ⟨us,v4,v5,v6,rfl,s2,Yi,ML,MM⟩;have e0:((0:Int)+(i:Int))=(i:Int):=by lia
    rw[e0];refine⟨OT,fun lr nr=>?_⟩;generalize zz:aM H2 lr _=H3;have⟨s3,er⟩:=nw nr zz;clear zz;have frl:lr≠lf:=(ao Yi nr).symm;refine⟨_,rfl,_,rfl,by lia,by lia,?_⟩;rw[show((k:Int)).toNat=k from Lu k];refine dG (lo:=0) (n:=k) (fun j σ H'=>JC H2 lw lf lr ws k i j σ H') ⟨_,i,[],rfl,s3,er,rfl,rfl⟩ ?_ ?_
    ·rintro j σ H4 hj ⟨v4,n,r,rfl,s4,er4,Wh,YT⟩;have hlw4:=(s2.trans s4) _ _ YN;have Ys:(n:Int)%(ws.length:Nat)=((n%ws.length:Nat):Int):=by norm_cast
     have Yw:(n:Int) / (ws.length:Nat)=((n / ws.length:Nat):Int):=by norm_cast
     have hm:n%ws.length<ws.length:=Mx _ (by lia);have ZQ:(aW ws)[n%ws.length]?=some (.int (ws.getD (n%ws.length) 0:Nat)):=by
      unfold aW;rw[KZ,KF hm,KP,KF hm];rfl
     refine⟨_,rfl,.inl ⟨rfl,_,OO.of er4⟩,_,rfl,_,rfl,_,rfl,lw,_,rfl,.inl (OO.of hlw4),_,_,rfl,rfl,by rw[YH];lia,lw,_,_,_,rfl,rfl,OO.of hlw4,by rw[YH,Ys];exact bf ZQ,lr,_,_,rfl,rfl,er4,by unfold aW;rw[Ky];lia,?_⟩;have s4u:OM H2 (aM H4 lr (.lst (aW r++[.int (ws.getD (n%ws.length) 0:Nat)]))):=cj nr s4;refine⟨_,rfl,_,rfl,lw,_,rfl,.inl (OO.of ((s2.trans s4u) _ _ YN)),_,_,rfl,rfl,⟨by rw[YH];lia,by rw[YH];lia⟩,?_⟩;refine⟨some (.int (0+(j:Int))),n / ws.length,r++[ws.getD (n%ws.length) 0],d_ (fun z=>[some (V.ref lw),some (V.int k),some (V.ref lf),some (V.int (ws.length^k:Nat)),some (V.int (0+(j:Int))),some (V.int z),some (V.ref lr)]) ?_,s4u,?_,by rw[Kz,Wh];rfl,?_⟩
     ·rw[YH,Yw]
     ·rw[ae];unfold aW;rw[KJ];rfl
     ·rw[<-YT,show k-j=(k-(j+1))+1 by lia,Le];rfl
    ·rintro σ H4 ⟨v4,n,r,rfl,s4,er4,Wh,YT⟩;rw[Nat.sub_self]at YT;have YT:r=mJ ws k i:=by rw[<-YT];exact(Lm r).symm
     subst YT;have W5:=ML.length;rw[KG]at W5;refine⟨_,rfl,.inl ⟨rfl,_,OO.of (s4 _ _ Yi)⟩,_,rfl,lf,_,_,rfl,rfl,s4 _ _ Yi,by lia,?_⟩;refine⟨_,_,_,_,rfl,cj nf (s2.trans s4),ae,?_,?_⟩
     ·rw[xJ hi];refine eu (R:=IH H _) ⟨lr,rfl,none_of s2 nr,by rw[au frl];exact er4⟩ ?_;refine Ij ML fun v r hv⟨a,e,n,h⟩=>⟨a,e,n,?_⟩;rw[au (fun z=>MM v hv (by rw[e,z]))];exact s4 _ _ h
     ·intro v hv;rcases La.mp hv with h|h
      ·exact MM v h
      ·rw[Lb.mp h];exact fun z=>frl (V.ref.inj z)
   ·rintro σ H2 ⟨us,v4,v5,v6,rfl,s2,Yi,ML,MM⟩;have:(fG ws k).take (ws.length^k)=fG ws k:=LB (by unfold fG;simp);rw[this]at ML;exact⟨_,rfl,q lf us H2 s2 nf Yi ML⟩
end
inductive QS(D:Fm)(H0 H:Hp)(u:V)(x:Ut×Ut):Prop
 |mk(st:Ul)(kvs:List (cQ×V))(a b:Ul):u=.ref st->H st=some (.dK kvs)->bq kvs (kS So)=some (.ref a)->bq kvs (kS Ss)=some (.ref b)->H0 a=none->H0 b=none->H a=some (.lst (aW x.1))->H b=some (.lst (aW x.2))->x.1.length=D.places.length->x.2.length=D.marks.length->(∀w∈x.1,w<2^D.width)->QS D H0 H u x
def QS.but(h:QS D H0 H u x)(e0:H0 lf=some o)(hl:H lf=some (.lst us))(b:OS lf H H'):QS D H0 H' u x:=by
 obtain⟨st,kvs,a,b',h1,h2,h3,h4,h5,h6,h7,h8,h9⟩:=h;exact⟨st,kvs,a,b',h1,b _ _ h2 (by rintro rfl;rw[hl]at h2;cases h2),h3,h4,h5,h6,b _ _ h7 (ao e0 h5).symm,b _ _ h8 (ao e0 h6).symm,h9,by assumption,by assumption⟩
def QS.to(h:QS D H0 H u x):∃st,u=.ref st/\Ro D H st x.1 x.2:=by
 obtain⟨st,kvs,a,b,h1,h2,h3,h4,h5,h6,h7,h8,h9,Yf,h11⟩:=h;exact⟨st,h1,kvs,a,b,h2,h3,h4,h7,h8,h9,Yf,h11⟩
abbrev Ik(D:Fm):Ut:=[0,1,tT D]
def AY(D:Fm)(mr:Ut):List (Ut×Ut):=(fG (Ik D) D.places.length).map fun pr=>(pr,mr)
def AZ(D:Fm):List (Ut×Ut):=(fG [0,1] D.marks.length).flatMap (AY D)
def wE{r:Ut}(hw:ws≠[])(h:r∈fG ws k):r.length=k/\∀w∈r,w∈ws:=by
 unfold fG at h;obtain⟨n,_,rfl⟩:=K4.mp h;exact wz hw k n
def xK(pl mk:Ut)(h1:pl.length=D.places.length)(h2:∀w∈pl,w=0\/w=1\/w=tT D)(h3:mk.length=D.marks.length)(h4:∀w∈mk,w=0\/w=1):(pl,mk)∈AZ D:=by
 refine Mu.mpr ⟨mk,?_,K4.mpr ⟨pl,?_,rfl⟩⟩
 ·rw[<-h3];exact mK (by simp) mk fun w hw=>by rcases h4 w hw with rfl|rfl<;>simp
 ·rw[<-h1];exact mK (by simp) pl fun w hw=>by rcases h2 w hw with rfl|rfl|rfl<;>simp
inductive A0(vs:Uv)(H:Hp)(Q:VK)(Z3:XK):Prop
 |mk(d:Ul)(D:Fm):vs=[.ref d]->DY H d D->DZ D->(∀l us H',OM H H'->H l=none->H' l=some (.lst us)->us.length<=1000->Paired (fun u x=>∃st,u=.ref st/\Ro D H' st x.1 x.2) us (AZ D)->Q (.ref l) H')->A0 vs H Q Z3
inductive Kg(D:Fm)(d:Ul)(H1 H3:Hp)(lf:Ul)(done:List (Ut×Ut))(m:Nat)(σ:St)(H':Hp):Prop
 |mk(us:Uv)(v2 v3:Option V):σ=[some (.ref d),some (.ref lf),v2,v3]->OS lf H3 H'->H' lf=some (.lst us)->us.length<=m->Paired (QS D H1 H') us done->Kg D d H1 H3 lf done m σ H'
inductive Kh(D:Fm)(d:Ul)(H1 H3:Hp)(lf am:Ul)(done:List (Ut×Ut))(m:Nat)(σ:St)(H':Hp):Prop
 |mk(us:Uv)(v3:Option V):σ=[some (.ref d),some (.ref lf),some (.ref am),v3]->OS lf H3 H'->H' lf=some (.lst us)->us.length<=m->Paired (QS D H1 H') us done->Kh D d H1 H3 lf am done m σ H'
def Il{M:Nat}(h:M<=3):2^M<=8:=by
 have:2^M<=2^3:=K0 zd h;lia
section
def QW:az [Si,T9,"_law_marks","_law_places"] [Si] (ak lK):=cv zk
def Gh(F:O0 K "_law_states" "_law_states" lK f fd)(B:Bl mg)(LA:Fn P w K mg base "_law_all" 1 [SD,"_law_long"] AX):OQ P w K mg base bQ 2 f fd [Si] A0:=by
 have ZZ:=QW
 walk_at "o"
 ·obtain⟨d,D,rfl,UU,hW,q⟩:=h;have hu:=eo hr;have sz:(100000:Nat)<=sizeLine:=by decide
  have w4:=hW.w4;have w24:=hW.w24;have p4:=hW.p4;have m3:=hW.m3;obtain⟨kvs,Zl,Zm,hd,vw,vp,vm,Zy,Zz⟩:=id UU;have p81:=vk (L:=3) (k:=D.places.length) zd p4;have p8:=Il m3;refine⟨_,(ac (bL (i:=1) QW.nd (aP ab)) (ac (cc g_ rfl (cm (ax LA hr rfl (aa (aP (aa af (aa af ab))) (aa (aI aL (by rfl) B.len KW (aa (bx hu (pv 0) ai) ab)) ab)))) (cq (i:=2) QW.nd) (ag (cc g_ rfl (cm (ax LA hr rfl (aa (aP (aa af (aa af (aa (aH gq af (aH cU (bx hu (pv 0) ai) af)) ab)))) (aa (aI aL (by rfl) B.len KW (aa (bx hu (pv 0) ai) ab)) ab)))) (cq (i:=3) QW.nd) (ag (aQ (ci KU KS KR bv (pv 1) (aa (iZ (cI ai (pv 3) (cI ai (pv 2) iY)) rfl rfl (by intro z;cases z) (by show 2<=15;decide)) ab))))))) (ag (aw (pv 1))))),?_⟩;refine⟨OT,fun lf nf=>?_⟩;generalize zz:aM H lf _=H1;have⟨s1,ef⟩:=nw nf zz;clear zz;refine⟨OT,fun l2 n2=>?_⟩;generalize zz:aM H1 l2 _=H2;have⟨Vy,e2⟩:=nw n2 zz;clear zz;have s2:=s1.trans Vy;refine⟨_,rfl,d,_,rfl,bA (s2 _ _ hd) vm,Zm,_,rfl,.inl (OO.of (s2 _ _ Zz)),l2,[0,1],D.marks.length,by rw[dm],e2,zd,zd,by lia,fun la ua H3 Vo nla ZU YJ=>?_⟩;have U5:=Vy.trans Vo;have s3:=s1.trans U5;have ef3:=U5 _ _ ef;have laf:la≠lf:=(ao (Vy _ _ ef) nla).symm;refine⟨la,rfl,⟨_,OO.of ZU⟩,?_⟩;have lua:=YJ.length;have lal:(fG [0,1] D.marks.length).length=2^D.marks.length:=by unfold fG;simp
  refine dN (K:=K) (a:=la) (xs:=ua) (fun i σ H'=>Kg D d H1 H3 lf (((fG [0,1] D.marks.length).take i).flatMap (AY D)) (i*81) σ H') ⟨_,_,_,rfl,OS.refl _ _,ef3,by simp,.nil⟩ (fun i σ H' _⟨_,_,_,_,b,_,_,_⟩=>OO.of (b _ _ ZU laf)) ?_ ?_
  ·rintro i z σ H4 hz ⟨Xt,v2,v3,rfl,b4,WZ,lu4,hu4⟩;obtain⟨mr,hmr,am,rfl,nam,ham⟩:=dB YJ hz;have hi:=(Kx.mp hz).1;obtain⟨lmr,wmr⟩:=wE (by simp) (KQ hmr);have amf:am≠lf:=(ao (Vy _ _ ef) nam).symm;have keep:∀{x o},H x=some o->H4 x=some o:=fun e=>b4 _ _ (s3 _ _ e) (ao e nf);refine⟨_,rfl,d,_,rfl,bA (keep hd) vw,_,_,rfl,rfl,_,_,rfl,rfl,⟨by lia,by lia,zd⟩,OT,fun l5 n5=>?_⟩;rw[IG (by lia)];generalize zz:aM H4 l5 _=H5;have s5:=(nw n5 zz).1;have e5:H5 l5=some (.lst (aW (Ik D))):=(nw n5 zz).2;clear zz;refine⟨_,rfl,d,_,rfl,bA (s5 _ _ (keep hd)) vp,Zl,_,rfl,.inl (OO.of (s5 _ _ (keep Zy))),l5,Ik D,D.places.length,by rw[dm],e5,by show 1<=3;decide,by show 3<=3;decide,by lia,fun lb ub H6 Vx VB ZT hub=>?_⟩;have s6:=s5.trans Vx;have ef6:=s6 _ _ WZ;have ef5:=s5 _ _ WZ;have lbf:lb≠lf:=(ao ef5 VB).symm;have ham6:=s6 _ _ (b4 _ _ ham amf);have hu6:Paired (QS D H1 H6) Xt _:=bD (fun _ _ h=>QS.but h ef WZ (fun x o e _=>s6 _ _ e)) hu4;refine⟨lb,rfl,⟨_,OO.of ZT⟩,?_⟩;have lub:=hub.length;have lbl:(fG (Ik D) D.places.length).length=3^D.places.length:=by unfold fG;simp
   have YB:∀{x},H5 x=none->H1 x=none:=fun{x}h=>by
    cases e:H1 x with
    |none=>rfl
    |some o=>
     by_cases hx:x=lf
     ·rw[hx,ef5]at h;cases h
     ·rw[s5 _ _ (b4 _ _ (U5 _ _ e) hx)]at h;cases h
   refine dN (K:=K) (a:=lb) (xs:=ub) (fun j σ H'=>Kh D d H1 H6 lf am (((fG [0,1] D.marks.length).take i).flatMap (AY D)++((fG (Ik D) D.places.length).take j).map fun pr=>(pr,mr)) (i*81+j) σ H') ⟨_,_,rfl,OS.refl _ _,ef6,by lia,by rw[Sb,LP,Lm];exact hu6⟩ (fun j σ H' _⟨_,_,_,b,_,_,_⟩=>OO.of (b _ _ ZT lbf)) ?_ ?_
   ·rintro j z σ H7 Zq ⟨us7,v3,rfl,b7,XN,lu7,hu7⟩;obtain⟨pr,hpr,ap,rfl,nap,hap⟩:=dB hub Zq;have hj:=(Kx.mp Zq).1;obtain⟨lpr,wpr⟩:=wE (by simp) (KQ hpr);have apf:ap≠lf:=(ao ef5 nap).symm;have hap7:=b7 _ _ hap apf;have ham7:=b7 _ _ ham6 amf;refine⟨_,rfl,.inl ⟨rfl,_,OO.of XN⟩,fun st YF=>?_⟩;obtain⟨kv,ek,k1,k2⟩:=J3 (.ref ap) (.ref am);refine⟨_,rfl,_,rfl,ae,[(Sum.inr So,.ref ap),(Sum.inr Ss,.ref am)],rfl,by show 2<=15;decide,?_⟩;have WY:eC [] [(Sum.inr So,V.ref ap),(Sum.inr Ss,V.ref am)]=kv:=ek;rw[WY];generalize zz:aM _ st (HO.dK kv)=H8;obtain⟨s8,e8⟩:=qy YF zz;clear zz;have ef8:=s8 _ _ XN;have hm8:i*81+j<=1000:=by
     have:i<8:=by lia
     have:j<81:=by lia
     lia
    refine⟨lf,_,_,rfl,rfl,ef8,by lia,?_⟩;have bu:OS lf H8 (aM H8 lf (.lst (us7++[.ref st]))):=fun x o e ne=>by rw[au ne];exact e
    refine⟨_,_,rfl,fun x o e ne=>bu _ _ (s8 _ _ (b7 _ _ e ne)) ne,ae,by rw[Kz];simp;lia,?_⟩;rw[k_,hpr,KJ,<-Le];refine eu (R:=QS D H1 _) ⟨st,kv,ap,am,rfl,bu _ _ e8 (by rintro rfl;rw[ef8]at e8;cases e8),k1,k2,YB nap,none_of Vy nam,bu _ _ (s8 _ _ hap7) apf,bu _ _ (s8 _ _ ham7) amf,lpr,lmr,?_⟩ (bD (fun _ _ h=>QS.but (QS.but h ef XN (fun x o e _=>s8 _ _ e)) ef ef8 bu) hu7);intro w hw;have hT:=AW w4;have:=wpr w hw;simp only[KH,KY,j_]at this;rcases this with rfl|rfl|rfl<;>lia
   ·rintro σ H7 ⟨us7,v3,rfl,b7,XN,lu7,hu7⟩;rw[lub,K7]at hu7;refine⟨_,_,_,rfl,fun x o e ne=>b7 _ _ (s6 _ _ (b4 _ _ e ne)) ne,XN,by lia,?_⟩;rw[k_,hmr,RJ];have:(Option.toList (some mr)).flatMap (AY D)=AY D mr:=by simp
    rw[this];exact hu7
  ·rintro σ H4 ⟨Xt,v2,v3,rfl,b4,WZ,lu4,hu4⟩;rw[lua,K7]at hu4;exact⟨_,rfl,q lf Xt H4 (fun x o e=>b4 _ _ (s3 _ _ e) (ao e nf)) nf WZ (by lia) (bD (fun _ _ h=>QS.to h) hu4)⟩
end
def xL(o:Ut):(aW o).all gE=true:=by
 rw[Li];intro v hv;unfold aW at hv;obtain⟨x,_,rfl⟩:=K4.mp hv;rfl
def De(x:Nat)(o:Ut):j7 (.int (x:Nat)) (aW o)=o.contains x:=by
 induction o with
 |nil=>rfl
 |cons y o ih=>
  show(sW (.int (y:Nat)) (.int (x:Nat))||j7 (.int (x:Nat)) (aW o))=_;rw[ih];have:sW (.int (y:Nat)) (.int (x:Nat))=decide (x=y):=by
   show((y:Int)==(x:Int))=_;by_cases e:x=y
   ·simp[e]
   ·have:(y:Int)≠(x:Int):=by lia
    simp[e,this]
  rw[this];simp[List.contains_cons]
inductive A1(vs:Uv)(H:Hp)(Q:VK)(Z3:XK):Prop
 |mk(d po:Ul)(v:V)(dd:Dd)(D:Fm)(ops:Ut):vs=[.ref d,v,.ref po]->DY H d D->DZ D->Qw H dd v->gl dd<=3->DX D ops dd->H po=some (.tup (aW ops))->(∀l H',OM H H'->H l=none->Q5 H' l (mL (tT D) ops D.places.length D.marks.length dd (fB dd).length)->Q (.ref l) H')->A1 vs H Q Z3
def Gi{α:Type}{f:α->Nat}{l:List α}{i:Nat}{x:α}(h:l[i]?=some x):aW ((l.take (i+1)).map f)=aW ((l.take i).map f)++[.int (f x:Nat)]:=by
 rw[k_,h,KJ];unfold aW;rw[KJ];rfl
section
def Qm:az [Si,Sq,Sl,"_law_led",Tz,Te,S6,SD] [Si,Sq,Sl] (ak vO):=cv zk
def J5:([SU,Sq,Sl,Si]:Us).Nodup:=by decide +kernel
def Gj(F:O0 K "_law_due" "_law_due" vO f fd)(B:Bl mg)(B3:Ca mg)(LS:Fn P w K mg base "_law_states" 2 [Si] A0)(LF:Fn P w K mg base "_law_leaf" n [Sq,Th,Si,SU,Sl] (sD 4))(LT:Fn P w K mg base "_law_tests" n5 [Sq,Tj] (sC 5))(LW:Fn P w K mg base "_law_words" 2 [S6,Si,Sl] AV)(hn:2<=n)(hn5:n5<=n):OQ P w K mg base bQ (n+1) f fd [Si,Sq,Sl] A1:=by
 have ZZ:=Qm
 walk_at "o"
 ·obtain⟨d,po,v,dd,D,ops,rfl,UU,hW,hdd,hdp,UO,Vb,q⟩:=h;have hu:=eo hr;have MF:OU 2 _:=hr.mono (by lia);have hr5:OU n5 _:=hr.mono hn5;have sz:(100000:Nat)<=sizeLine:=by decide
  refine⟨_,(ac (gF (i:=3) Qm.nd rfl rfl (N':=[SU,Sq,Sl,Si]) (ix:=[none,some 1,some 2,some 0]) (sc0:=ak vO) (N:=[Si,Sq,Sl,"_law_led",Tz,Te,S6,SD]) rfl zk (cm (ax LS MF rfl (aa (pv 0) ab))) (fun _ _ _ _ _=>(cq (i:=0) J5)) (fun _ _ _ _ _=>dQ) (fun _ _ _ _ _=>(ax LF hr rfl (aa (pv 1) (aa af (aa (pv 3) (aa (pv 0) (aa (pv 2) ab)))))))) (ac (bL (i:=4) Qm.nd (aP ab)) (ac (cc g_ rfl (gX rfl B3.enumerate (aa (ax LT hr5 rfl (aa (pv 1) (aa (aP ab) ab))) ab)) (cr rfl (aA (cq (i:=5) Qm.nd) (aA (cq (i:=6) Qm.nd) br))) (ac (bL (i:=7) Qm.nd (ax LW MF rfl (aa (pv 6) (aa (pv 0) (aa (pv 2) ab))))) (ag (aT (aq eA (pv 5) (pv 3) rfl) (ag (aQ (ci KU KS KR bv (pv 4) (aa (aK (aa (pv 5) (aa (aY bC (by rfl) B.tuple bG (aa (bx hu (pv 7) ai) ab)) (aa (aY bC (by rfl) B.tuple bG (aa (bx hu (pv 7) ai) ab)) ab)))) ab)))) aG)))) (ag (aw (pv 4)))))),?_⟩;refine⟨_,rfl,d,D,rfl,UU,hW,fun ls us H1 s1 nls UV W5 UK=>⟨ls,rfl,⟨_,OO.of UV⟩,?_⟩⟩;have lal:=UK.length;refine eJ (K:=K) (a:=ls) (xs:=us) (fun i ys H'=>OM H1 H'/\ys=aW (((AZ D).take i).map fun x=>qe (tT D) ops (sf x.1 x.2) dd)) ⟨OM.refl _,rfl⟩ (fun i ys H' hi⟨s',ey⟩=>⟨OO.of (s' _ _ UV),by rw[ey];unfold aW;rw[Ky,Ky,KG];lia⟩) ?_ ?_
  ·rintro i z ys H2 hz ⟨s2,rfl⟩;obtain⟨x,hx,st,rfl,hS⟩:=dB UK hz;have Vp:=s1.trans s2;refine⟨⟨rfl,rfl,rfl,trivial⟩,eB ?_⟩;refine⟨_,rfl,_,rfl,_,rfl,_,rfl,v,0,d,st,po,dd,D,ops,x.1,x.2,rfl,hdd.kt (av Vp),hdp,(show 3<=4 by decide),UU.same' Vp,hW,hS.same s2,Vp _ _ Vb,UO,fun H3 s3=>?_⟩;refine Nx.mk (Kx.mp hz).1 ⟨s2.trans s3,?_⟩;rw[Gi hx,RX]
  ·rintro ys H2 ⟨s2,rfl⟩ ll nll;rw[lal,K7];generalize eL:(AZ D).map (fun x=>qe (tT D) ops (sf x.1 x.2) dd)=L;generalize zz:aM H2 ll _=H3;have⟨Vo,XM⟩:=nw nll zz;clear zz;have s3:=(s1.trans s2).trans Vo;refine⟨OT,fun lw UT=>?_⟩;generalize zz:aM H3 lw _=H4;have⟨s4',WX⟩:=nw UT zz;clear zz;have s4:=s3.trans s4';have nl0:H lw=none:=none_of s3 UT;have nl3:H3 lw=none:=UT;refine⟨_,rfl,OT,fun l5 n5=>?_⟩;have Wm:=aj (o:=.lst []) n5;have e5:(aM H4 l5 (.lst [])) l5=some (.lst []):=ae;generalize aM H4 l5 (.lst [])=H5 at Wm e5⊢;have s5:=s4.trans Wm;refine⟨H4,v,_,dd,[],rfl,Wm,hdd.kt (av s5),⟨l5,_,rfl,n5,e5,.nil⟩,Ll hdp zd,(show 4<=10 by decide),(show 0+4<=20 by decide),fun u6 H6 Vx hZZ=>?_⟩;obtain⟨l6,us6,e6,n6,hl6,X7⟩:=hZZ;subst e6;have X7:Paired (PU H4 H6) us6 (fB dd):=by
    have e:(fB dd).map (fun q:Pa=>[]++q)=fB dd:=by simp
    rw[<-e];exact X7
   have VS:=Wm.trans Vx;have s6:=s4.trans VS;have lq:=X7.length;have l8:=fP dd;have pw8:2^gl dd<=2^3:=K0 zd hdp;have l6w:l6≠lw:=(ao WX n6).symm;have We:=VS _ _ WX;refine⟨l6,rfl,⟨_,OO.of hl6⟩,?_⟩;refine rC (K:=K) (l:=l6) (xs:=us6) (fun i σ H'=>∃v5 v6 v7:Option V,σ=[some (.ref d),some v,some (.ref po),some (.ref ll),some (.ref lw),v5,v6,v7]/\OS lw H6 H'/\Q5 H' lw (mL (tT D) ops D.places.length D.marks.length dd i)) ⟨_,_,_,rfl,OS.refl _ _,⟨_,We,.nil⟩⟩ (fun i σ H' _⟨_,_,_,_,b,_⟩=>OO.of (b _ _ hl6 l6w)) ?_ ?_
   ·rintro i z σ H7 T7 hz nT ⟨v5,v6,v7,rfl,b7,D7⟩;obtain⟨pa,XB,tl,us,rfl,ntl,WQ,ML⟩:=dB X7 hz;have mpa:=KQ XB;have tlw:tl≠lw:=(ao WX ntl).symm;have keep:∀{x o},H x=some o->H7 x=some o:=fun e=>b7 _ _ (s6 _ _ e) (ao e nl0);have Zc:OM H H7:=fun x o e=>keep e;refine⟨T7,_,rfl,ON.of ae,rfl,_,_,rfl,_,_,rfl,rfl,?_⟩;generalize zz:aM H7 T7 _=H8;have⟨Xw,_⟩:=nw nT zz;clear zz;have s8:=Zc.trans Xw;have Xz:OZ H6 H7:=fun a us e=>b7 _ _ e (by rintro rfl;rw[We]at e;cases e);refine⟨_,rfl,_,rfl,_,rfl,tl,d,po,us,pa,D,ops,rfl,Xw _ _ (b7 _ _ WQ tlw),bD (fun _ _ h=>QB.kt (av Xw) (QB.kt Xz h)) ML,UU.same' s8,hW,s8 _ _ Vb,qu _ _ UO mpa,fun st H9 s9 hS=>?_⟩;have s79:=Xw.trans s9;have s09:=Zc.trans s79;have ell9:H9 ll=some (.lst (aW L)):=s79 _ _ (b7 _ _ ((s4'.trans VS) _ _ XM) (ao XM nl3));refine⟨_,rfl,_,rfl,ll,_,rfl,.inl (OO.of ell9),rfl,xL _,_,rfl,?_⟩;have hiff:=C0 (T:=tT D) (ops:=ops) jX (qt dd UO) XB (all:=AZ D) (fun pl mk a b c e=>xK pl mk a b c e);rw[eL]at hiff;have hin:j7 (.int (i:Nat)) (aW L)=sK (tT D) ops (cL (tT D) ops pa) pa:=by
     rw[De,LJ,Lg];exact hiff
    show if j7 (.int (i:Nat)) (aW L)=true then _ else _;rw[hin];have eD:mL (tT D) ops D.places.length D.marks.length dd (i+1)=_:=oh XB;unfold DV at eD;have D9:=D7.same s79;have b69:OS lw H6 H9:=fun a o e ne=>s79 _ _ (b7 _ _ e ne);cases hl:sK (tT D) ops (cL (tT D) ops pa) pa with
    |false=>
     rw[hl,e_ zd,Lm]at eD;refine bP ⟨_,_,_,rfl,b69,?_⟩;rw[eD];exact D9
    |true=>
     rw[hl,f_ rfl]at eD;obtain⟨uw,hw9,hu9⟩:=D9;have lu9:=hu9.length;have ld:=sy (T:=tT D) (ops:=ops) (Pn:=D.places.length) (M:=D.marks.length) (d:=dd) (i:=i);have hi:=(Kx.mp hz).1;obtain⟨kvs,ap,am,hst9,k1,k2,hap,ham,_⟩:=hS;refine fC ⟨_,rfl,.inl ⟨rfl,_,OO.of hw9⟩,_,rfl,_,rfl,st,_,rfl,bA hst9 k1,ap,_,rfl,.inl ⟨OO.of hap,fun ta nta=>?_⟩⟩;have Vz:=aj (o:=.tup (aW (fl (cL (tT D) ops pa) false D.places.length))) nta;have ea:(aM H9 ta (.tup (aW (fl (cL (tT D) ops pa) false D.places.length)))) ta=_:=ae;generalize aM H9 ta (.tup (aW (fl (cL (tT D) ops pa) false D.places.length)))=Y6 at Vz ea⊢;refine⟨_,rfl,st,_,rfl,bA (Vz _ _ hst9) k2,am,_,rfl,.inl ⟨OO.of (Vz _ _ ham),fun tb ntb=>?_⟩⟩;have U6:=aj (o:=.tup (aW (fl (cL (tT D) ops pa) true D.marks.length))) ntb;have eb:(aM Y6 tb (.tup (aW (fl (cL (tT D) ops pa) true D.marks.length)))) tb=_:=ae;generalize aM Y6 tb (.tup (aW (fl (cL (tT D) ops pa) true D.marks.length)))=Y5 at U6 eb⊢;refine⟨OT,fun tc ntc=>?_⟩;generalize zz:aM Y5 tc _=H12;have⟨MO,ec⟩:=nw ntc zz;clear zz;have Xl:=(Vz.trans U6).trans MO;refine⟨lw,_,_,rfl,rfl,Xl _ _ hw9,by lia,?_⟩;have kU:OZ H12 (aM H12 lw (.lst (uw++[.ref tc]))):=fun a us e=>by rw[au (by rintro rfl;rw[Xl _ _ hw9]at e;cases e)];exact e
     refine⟨_,_,_,rfl,fun a o e ne=>by rw[au ne];exact Xl _ _ (b69 _ _ e ne),?_⟩;rw[eD];exact⟨_,ae,eu (R:=QG _) ⟨tc,ta,tb,rfl,kU _ _ ec,kU _ _ ((U6.trans MO) _ _ ea),kU _ _ (MO _ _ eb)⟩ (bD (fun _ _ h=>QG.kt kU (QG.kt (av Xl) h)) hu9)⟩
   ·rintro σ H7 ⟨v5,v6,v7,rfl,b7,D7⟩;rw[lq]at D7;exact⟨_,rfl,q lw H7 (fun a o e=>b7 _ _ (s6 _ _ e) (ao e nl0)) nl0 D7⟩
end
def xN(x:Du):PyData:=.tuple [.int (x.1:Nat),.tuple (x.2.1.map fun(n:Nat)=>PyData.int (n:Int)),.tuple (x.2.2.map fun(n:Nat)=>PyData.int (n:Int))]
def qB:∀l:Ut,O5 H (aW l) (l.map fun(n:Nat)=>PyData.int (n:Int))
 |[]=>.nil
 |n::r=>.cons (.int _) (qB r)
def QG.td(h:QG H v x):Td H v (xN x):=by
 obtain⟨p,a,b,rfl,h1,h2,h3⟩:=h;exact .tup h1 (.cons (.int _) (.cons (.tup h2 (qB _)) (.cons (.tup h3 (qB _)) .nil)))
def sE:∀{us:Uv}{l:List Du},Paired (QG H) us l->O5 H us (l.map xN)
 |_,_,.nil=>.nil
 |_,_,.cons h t=>.cons (QG.td h) (sE t)
def sF:∀l:Ut,PyData.depthAll (l.map fun(n:Nat)=>PyData.int (n:Int))=0
 |[]=>by simp[PyData.depthAll]
 |n::r=>by simp[PyData.depthAll,PyData.depth,sF r]
def vo:∀l:List Du,PyData.depthAll (l.map xN)<=2
 |[]=>by simp[PyData.depthAll]
 |x::r=>by
  have:=vo r;rw[K2];simp only[PyData.depthAll,xN,PyData.depth,sF];lia
def Im(h1:Q5 H a x)(h2:Q5 H b x)(q:Q (.bl false) H):Rf K (.ref a) (.ref b) H Q:=by
 obtain⟨us,e1,p1⟩:=h1;obtain⟨vs,e2,p2⟩:=h2;have t1:=sE p1;have t2:=sE p2;have hd:=vo x;refine⟨.list (x.map xN),.list (x.map xN),.lst (OO.of e1) t1.dt,.lst (OO.of e2) t2.dt,t1.lay,t2.lay,by simp only[PyData.depth];lia,?_⟩;rw[show PyData.eqv (.list (x.map xN)) (.list (x.map xN))=true from by simp only[PyData.eqv];exact t1.eqv];exact q
def Io(h1:Q5 H a x)(h2:Q5 H b x)(q:Q (.bl true) H):Rq K (.ref a) (.ref b) H Q:=by
 obtain⟨us,e1,p1⟩:=h1;obtain⟨vs,e2,p2⟩:=h2;have t1:=sE p1;have t2:=sE p2;have hd:=vo x;refine⟨.list (x.map xN),.list (x.map xN),.lst (OO.of e1) t1.dt,.lst (OO.of e2) t2.dt,t1.lay,t2.lay,by simp only[PyData.depth];lia,?_⟩;rw[show PyData.eqv (.list (x.map xN)) (.list (x.map xN))=true from by simp only[PyData.eqv];exact t1.eqv];exact q
def A2:∀{c:Nat}{d:Dd},fE W ps ms fs m c d->gl d<=c
 |c,.leaf _ _,_=>Lh _
 |0,.ite _ _ _,h=>absurd h (by simp[fE])
 |c+1,.ite t y n,h=>by
  have h1:=A2 (c:=c) (d:=y) h.2.1;have h2:=A2 (c:=c) (d:=n) h.2.2;unfold gl;lia
section
variable{D:Fm}
def A3{st:Str}{L:Us}(hS:cB L st fs b n)(hp:Paired (fun o(f:Str×Str)=>o<oj D k f.2) ops fs)(hb:oj D k st=L.length):(b=true->n<ops.length)/\(if b=true then ops.getD n 0 else n)<L.length:=by
 unfold cB at hS;cases b with
 |true=>
  rw[f_ rfl]at hS;obtain⟨z,hz⟩:=hS;obtain⟨o,ho,MP⟩:=rR hp hz;have hl:=(Kx.mp ho).1;refine⟨fun _=>hl,?_⟩;rw[f_ rfl,KP,ho,<-hb];exact MP
 |false=>
  rw[e_ zd]at hS;exact⟨(fun z=>by cases z),by rw[e_ zd];exact hS⟩
def A4(hp:Paired (fun o(f:Str×Str)=>o<oj D k f.2) ops fs):∀{c:Nat}{d:Dd},fE W D.places D.marks fs m c d->DX D ops d
 |c,.leaf _ _,_=>trivial
 |0,.ite _ _ _,h=>absurd h (by simp[fE])
 |c+1,.ite t y n,h=>by
  refine⟨?_,A4 hp (c:=c) (d:=y) h.2.1,A4 hp (c:=c) (d:=n) h.2.2⟩;have ht:=h.1;cases t with
  |top b j=>exact A3 (D:=D) (k:=k) ht hp rfl
  |pl b j=>exact A3 (D:=D) (k:=k) ht hp rfl
  |mk b j=>exact A3 (D:=D) (k:=k) ht hp (by unfold oj;rw[e_ zk,f_ rfl])
def A5(h:qI D fn gt):DZ D:=⟨h.w4,h.w24,h.p4,h.m3⟩
def Gk(h:qI D fn gt)(hx:x∈D.kinds)(hp:Paired (fun o(f:Str×Str)=>o<oj D 999 f.2) ops x.fs):J0 D ⟨x,ops⟩:=by
 obtain⟨c,k,hm,hk⟩:=h.kl;have:=nU hm;have hd:=(hk x hx).dd;exact⟨uQ h,h.w4,h.w24,h.p4,h.m3,h.c64,h.d8,⟨hx,hp⟩,A4 hp hd,Ll (A2 hd) (by lia)⟩
inductive Gm(C:Ul)(vs:Uv)(H:Hp)(Q:VK)(Z3:XK):Prop
 |mk(v b:V)(d tk po lf:Ul)(D:Fm)(x:Kn)(ops:Ut):vs=[v,.ref d,.ref tk,.ref po]->Pd C H v D->DY H d D->DZ D->H tk=some (.tup [.str x.name,.ref lf,b])->Qw H x.dd b->H po=some (.tup (aW ops))->J0 D ⟨x,ops⟩->(∀H',OM H H'->Q (.bl true) H')->Gm C vs H Q Z3
section
def QI:az [TM,Si,TQ,Sl,Tz,T9,Te,"_law_places","_law_marks",SU] [TM,Si,TQ,Sl] (ak oS):=cv zk
def Ip(F:O0 K "_law_right" "_law_right" oS f fd)(B:Bl mg)(LD:Fn P w K mg base "_law_due" n [Si,Sq,Sl] A1)(WO:Fn P w K mg base "ways_of" n [SQ,S2] (vj C))(LF:Fn P w K mg base "_law_leaf" n [Sq,Th,Si,SU,Sl] (sD 4)):OQ P w K mg base bQ (n+1) f fd [TM,Si,TQ,Sl] (Gm C):=by
 have ZZ:=QI
 walk_at "o"
 ·obtain⟨v,b,d,tk,po,lf,D,x,ops,rfl,hT,UU,hW,Wg,hb,Vb,hR,q⟩:=h;have sz:(100000:Nat)<=sizeLine:=by decide
  refine⟨_,(ac (bL (i:=4) QI.nd (ax LD hr rfl (aa (pv 1) (aa (aB aJ (pv 2) af) (aa (pv 3) ab))))) (ac (bL (i:=5) QI.nd (ax WO hr rfl (aa (pv 0) (aa (aK (aa (aB aJ (pv 2) af) (aa (pv 3) ab))) ab)))) (ac (aT (PW.pt (fe (cE (bT (aI (fR (T:="list")) (by rfl) B.isinstance dj (aa (pv 5) (aa (im (by rfl) B.list cF) ab))))) (dM (aq (PB hr) (pv 5) (pv 4))))) (ag (aw fH)) aG) (ac (cc g_ rfl (cm (pv 5)) (cr rfl (aA (cq (i:=6) QI.nd) (aA (cq (i:=7) QI.nd) (aA (cq (i:=8) QI.nd) br)))) (ac (bL (i:=9) QI.nd (iZ (cI ai (aY c9 (by rfl) B.list cF (aa (pv 7) ab)) (cI ai (aY c9 (by rfl) B.list cF (aa (pv 8) ab)) iY)) rfl rfl (by intro z;cases z) (by show 2<=15;decide))) (ag (aT (PW.pt (fe (bT (aI (fR (T:="bool")) (by rfl) B.isinstance dj (aa (pv 6) (aa (im (by rfl) B.bool lL) ab)))) (dM (aq iP (ax LF hr rfl (aa (aB aJ (pv 2) af) (aa af (aa (pv 1) (aa (pv 9) (aa (pv 3) ab)))))) (pv 6))))) (ag (aw fH)) aG)))) (ac (aQ (Eu KU PySem.F.slot_list_clear PySem.F.type_list_clear yg (pv 5))) (ag (aw (cb (Rh hr) (ax WO hr rfl (aa (pv 0) (aa (aK (aa (aB aJ (pv 2) af) (aa (pv 3) ab))) ab))) (pv 4))))))))),?_⟩;refine⟨_,rfl,_,rfl,tk,_,_,_,rfl,rfl,ON.of Wg,rfl,_,rfl,d,po,b,x.dd,D,ops,rfl,UU,hW,hb,hR.dp,hR.sl,Vb,fun ld H1 s1 nld Ps=>?_⟩;refine⟨_,rfl,_,rfl,tk,_,_,_,rfl,rfl,ON.of (s1 _ _ Wg),rfl,_,rfl,OT,fun tr ntr=>?_⟩;generalize zz:aM H1 tr _=H2;have⟨Vy,etr⟩:=nw ntr zz;clear zz;have s2:=s1.trans Vy;refine⟨v,_,D,⟨x,ops⟩,rfl,hT.same s2,⟨tr,po,rfl,etr,s2 _ _ Vb⟩,hR,fun lw H3 Vo UT YN=>?_⟩;have s3:=s2.trans Vo;have Yt:=Ps.same (Vy.trans Vo);have nlwH:H lw=none:=none_of s2 UT;obtain⟨usd,eld,_⟩:=id Yt;obtain⟨us,WX,ML⟩:=id YN;have ldw:ld≠lw:=by
   obtain⟨_,e,_⟩:=id Ps;exact ao (Vy _ _ e) UT
  refine⟨_,rfl,_,_,_,rfl,.lst WX,rfl,_,rfl,bP ?_⟩;refine⟨_,rfl,_,rfl,Im YN Yt ⟨_,rfl,bP ?_⟩⟩;refine⟨_,rfl,lw,rfl,⟨_,OO.of WX⟩,?_⟩;refine dN (K:=K) (a:=lw) (xs:=us) (fun i σ H'=>∃v6 v7 v8 v9:Option V,σ=[some v,some (.ref d),some (.ref tk),some (.ref po),some (.ref ld),some (.ref lw),v6,v7,v8,v9]/\OM H3 H') ⟨_,_,_,_,rfl,OM.refl _⟩ (fun i σ H' _⟨_,_,_,_,_,s'⟩=>OO.of (s' _ _ WX)) ?_ ?_
  ·rintro i z σ H4 hz ⟨v6,v7,v8,v9,rfl,s4⟩;obtain⟨y,hy,pt,pa,pb,rfl,VF,XB,hpb⟩:=dB ML hz;obtain⟨pth,hpth,hled,e1,e2⟩:=C1 (KQ hy) (KO _);have Vt:=FU (qt _ hR.sl) hpth hled;rw[<-e1,<-e2]at Vt;refine⟨pt,_,rfl,ON.of (s4 _ _ VF),rfl,_,_,rfl,_,_,rfl,_,_,rfl,rfl,fun st YF=>?_⟩;have Wm:=aj (o:=.dK []) YF;have est:(aM H4 st (.dK [])) st=some (.dK []):=ae;refine⟨_,rfl,pa,_,rfl,.inr (ON.of (Wm _ _ (s4 _ _ XB))),fun la nla=>?_⟩;have Vx:=aj (o:=.lst (aW y.2.1)) nla;refine⟨_,rfl,pb,_,rfl,.inr (ON.of ((Wm.trans Vx) _ _ (s4 _ _ hpb))),fun lb VB=>?_⟩;have Xx:=aj (o:=.lst (aW y.2.2)) VB;obtain⟨kv,ek,k1,k2⟩:=J3 (.ref la) (.ref lb);refine⟨(Vx.trans Xx) _ _ est,[(Sum.inr So,.ref la),(Sum.inr Ss,.ref lb)],rfl,by show 2<=15;decide,?_⟩;have WY:eC [] [(Sum.inr So,V.ref la),(Sum.inr Ss,V.ref lb)]=kv:=ek;rw[WY];have ZU:(aM (aM (aM H4 st (.dK [])) la (.lst (aW y.2.1))) lb (.lst (aW y.2.2))) la=some (.lst (aW y.2.1)):=Xx _ _ ae;have ZT:(aM (aM (aM H4 st (.dK [])) la (.lst (aW y.2.1))) lb (.lst (aW y.2.2))) lb=some (.lst (aW y.2.2)):=ae;have YE:=(Wm.trans Vx).trans Xx;have est7:=(Vx.trans Xx) _ _ est;generalize aM (aM (aM H4 st (.dK [])) la (.lst (aW y.2.1))) lb (.lst (aW y.2.2))=H7 at ZU ZT YE est7⊢;have s48:OM H4 (aM H7 st (.dK kv)):=fun a o e=>by rw[au (ao e YF)];exact YE _ _ e
   have Z':∀{a xs},H7 a=some (.lst xs)->(aM H7 st (.dK kv)) a=some (.lst xs):=fun{a xs}e=>by rw[au (by rintro rfl;rw[est7]at e;cases e)];exact e
   have S8:Ro D (aM H7 st (.dK kv)) st y.2.1 y.2.2:=⟨kv,la,lb,ae,k1,k2,Z' ZU,Z' ZT,by rw[e1];exact dX,by rw[e2];exact dX,by rw[e1];exact D1 (P1.letA jX _ _ P1.zero) hR.w4⟩;generalize aM H7 st (.dK kv)=H8 at s48 S8⊢;have s8:=s4.trans s48;have s08:=s3.trans s8;refine⟨_,rfl,_,_,_,rfl,.int _,rfl,_,rfl,bP ?_⟩;refine⟨_,rfl,tk,_,_,_,rfl,rfl,ON.of (s08 _ _ Wg),rfl,_,rfl,_,rfl,_,rfl,b,0,d,st,po,x.dd,D,ops,y.2.1,y.2.2,rfl,hb.kt (av s08),hR.dp,(show 3<=4 by decide),UU.same' s08,hW,S8,s08 _ _ Vb,hR.sl,fun H9 s9=>?_⟩;rw[RX];refine⟨_,rfl,rfl,_,rfl,bi ?_ ⟨_,_,_,_,rfl,s8.trans s9⟩⟩;rw[Vt];simp
  ·rintro σ H4 ⟨v6,v7,v8,v9,rfl,s4⟩;have VN:=s4 _ _ WX;refine⟨_,rfl,.inl ⟨rfl,_,OO.of VN⟩,lw,_,rfl,rfl,VN,?_⟩;have U7:OM H (aM H4 lw (.lst [])):=fun a o e=>by rw[au (ao e nlwH)];exact(s3.trans s4) _ _ e
   have kt4:OZ H4 (aM H4 lw (.lst [])):=fun a ys e=>by rw[au (by rintro rfl;rw[VN]at e;cases e)];exact e
   have hld5:Q5 (aM H4 lw (.lst [])) ld (GB D ⟨x,ops⟩ (fB x.dd).length):=by
    obtain⟨u,e,p⟩:=Yt.same s4;exact⟨u,by rw[au ldw];exact e,bD (fun _ _ h=>QG.kt kt4 h) p⟩
   generalize aM H4 lw (.lst [])=H5 at U7 hld5⊢;refine⟨_,rfl,_,rfl,tk,_,_,_,rfl,rfl,ON.of (U7 _ _ Wg),rfl,_,rfl,OT,fun tr' ntr'=>?_⟩;generalize zz:aM H5 tr' _=H6;have⟨Vx,etr'⟩:=nw ntr' zz;clear zz;have s6:=U7.trans Vx;refine⟨v,_,D,⟨x,ops⟩,rfl,hT.same s6,⟨tr',po,rfl,etr',s6 _ _ Vb⟩,hR,fun l2 H7 s7 nl2 YO=>?_⟩;exact⟨_,rfl,Io YO (hld5.same (Vx.trans s7)) (q H7 (s6.trans s7))⟩
end
end
def Iq(va vb vc:V):∃kv,eC [] [(kS Sn,va),(kS Su,vb),(kS S2,vc)]=kv/\bq kv (kS Sn)=some va/\bq kv (kS Su)=some vb/\bq kv (kS S2)=some vc/\bq kv (kS "number")=none:=by
 refine⟨_,rfl,?_,?_,?_,?_⟩
 ·show bq (bz (bz (bz [] (kS Sn) va) (kS Su) vb) (kS S2) vc) _=_;rw[bR zk,bR zk,eP]
 ·show bq (bz (bz (bz [] (kS Sn) va) (kS Su) vb) (kS S2) vc) _=_;rw[bR zk,eP]
 ·show bq (bz (bz (bz [] (kS Sn) va) (kS Su) vb) (kS S2) vc) _=_;rw[eP]
 ·show bq (bz (bz (bz [] (kS Sn) va) (kS Su) vb) (kS S2) vc) _=_;rw[bR zk,bR zk,bR zk];rfl
inductive A6(vs:Uv)(H:Hp)(Q:VK)(Z3:XK):Prop
 |mk(p d lf:Ul)(D:Fm)(fs:Uu)(n:Nat):vs=[.ref p,.ref d,.ref lf,.int n]->OX H p->DY H d D->QE H lf fs->fs.length<=3->DZ D->1<=D.places.length->(∀f∈fs,f.2∈db)->(∀f∈fs,f.2=(Su:Str)->1<=D.marks.length)->n<=998->(∀t ops H',OX H' p->O4 p H H'->H' t=some (.tup (aW ops))->Paired (fun o(f:Str×Str)=>o<oj D 999 f.2) ops fs->Q (.ref t) H')->A6 vs H Q Z3
def sG(D:Fm)(n:Nat)(st:Str):Nat:=if st=Sn then D.places.length else if st=Su then D.marks.length else if st=S2 then n+1 else 0
def Df{n:Nat}{kv:List (cQ×V)}(h:st∈db)(k1:bq kv (kS Sn)=some (.int (D.places.length:Nat)))(k2:bq kv (kS Su)=some (.int (D.marks.length:Nat)))(k3:bq kv (kS S2)=some (.int ((n:Int)+1)))(k4:bq kv (kS "number")=none):(bq kv (kS st)).getD (.int 0)=.int (sG D n st:Nat):=by
 unfold db at h;simp only[KH,KY,j_]at h;unfold sG;rcases h with rfl|rfl|rfl|rfl
 ·rw[k1,f_ rfl];rfl
 ·rw[k2,e_ zk,f_ rfl];rfl
 ·rw[k4,e_ zk,e_ zk,e_ zk];rfl
 ·rw[k3,e_ zk,e_ zk,f_ rfl];rfl
inductive JO(H:Hp)(p d lf lw:Ul)(D:Fm)(fs:Uu)(n i:Nat)(σ:St)(H':Hp):Prop
 |mk(ops:Ut)(v5 v6 v7:Option V):σ=[some (.ref p),some (.ref d),some (.ref lf),some (.int n),some (.ref lw),v5,v6,v7]->OX H' p->O4 p H H'->H' lw=some (.lst (aW ops))->Paired (fun o(f:Str×Str)=>o<oj D 999 f.2) ops (fs.take i)->JO H p d lf lw D fs n i σ H'
def wF{H:Hp}(g:OX H6 p)(b:O4 p H H6)(e:H6 lw=some (.lst (aW ops)))(nl:H lw=none)(XY:p≠lw)(hp:Paired (fun o(f:Str×Str)=>o<oj D 999 f.2) ops (fs.take i))(hf:fs[i]?=some f)(ho:o<oj D 999 f.2)(v5 v6 v7:Option V)(n:Nat):JO H p d lf lw D fs n (i+1) [some (.ref p),some (.ref d),some (.ref lf),some (.int n),some (.ref lw),v5,v6,v7] (aM H6 lw (.lst (aW ops++[.int (o:Nat)]))):=by
 refine⟨ops++[o],_,_,_,rfl,?_,?_,?_,?_⟩
 ·obtain⟨x,y,z,e⟩:=g;exact⟨x,y,z,by rw[au XY];exact e⟩
 ·intro a o' e' ne;rw[au (ao e' nl)];exact b _ _ e' ne
 ·rw[ae];unfold aW;rw[KJ];rfl
 ·rw[k_,hf];exact eu (R:=fun o(f:Str×Str)=>o<oj D 999 f.2) ho hp
def Ir{W:Nat}(h:W<=24):2^W<=16777216:=by
 have:2^W<=2^24:=K0 zd h;lia
def sI(g:OX H p)(b:O4 p H H'):OZ H H':=fun x ys e=>b _ _ e (bS g e (fun _ _ _ z=>by cases z))
section
def Ql:az [Sj,Si,Sk,S3,T9,SW,SJ,TH] [Sj,Si,Sk,S3] (ak iF):=cv zk
def Gn(F:O0 K "_law_operands" "_law_operands" iF f fd)(B:Bl mg)(J':Fn P w K mg base "_law_take" 1 [Sj,SB] eO):OQ P w K mg base bQ 2 f fd [Sj,Si,Sk,S3] A6:=by
 have ZZ:=Ql
 walk_at "o"
 ·obtain⟨p,d,lf,D,fs,n,rfl,hg,UU,⟨us,Vt,ML⟩,h3,hW,YL,UK,hmk,hn,q⟩:=h;have hu:=eo hr;have sz:(100000:Nat)<=sizeLine:=by decide
  have p4:=hW.p4;have m3:=hW.m3;have w24:=hW.w24;have pw:=Ir hW.w24;have W5:=ML.length;refine⟨_,(ac (bL (i:=4) Ql.nd (aP ab)) (ac (cc g_ rfl (cm (pv 2)) (cr rfl (aA (cq (i:=5) Ql.nd) (aA (cq (i:=6) Ql.nd) br))) (ac (bL (i:=7) Ql.nd (yw hu (iZ (cI ai (aI aL (by rfl) B.len KW (aa (bx hu (pv 1) ai) ab)) (cI ai (aI aL (by rfl) B.len KW (aa (bx hu (pv 1) ai) ab)) (cI ai (aH bX (pv 3) af) iY))) rfl rfl (by intro z;cases z) (by show 3<=15;decide)) (pv 6) af ⟨rfl,rfl,rfl,rfl⟩)) (ac (aT (aq aX (pv 6) ai) (ag (bL (i:=7) Ql.nd (aB aU (aP (aa af (aa (aH gq af (bx hu (pv 1) ai)) ab))) (ax J' hr rfl (aa (pv 0) (aa af ab)))))) aG) (ag (aQ (ci KU KS KR bv (pv 4) (aa (ax J' hr rfl (aa (pv 0) (aa (pv 7) ab))) ab))))))) (ag (aw (aY bC (by rfl) B.tuple bG (aa (pv 4) ab)))))),?_⟩;refine⟨OT,fun lw UT=>?_⟩;generalize zz:aM H lw _=H1;have⟨s1,WX⟩:=nw UT zz;clear zz;have XY:p≠lw:=hg.ne UT;have lfp:lf≠p:=by
   obtain⟨a,b,c,e⟩:=hg;rintro rfl;rw[Vt]at e;have:=HO.lst.inj (Lc e);subst this;cases ML with
   |cons h _=>obtain⟨q,e,_⟩:=h;cases e
  refine⟨_,rfl,lf,rfl,⟨_,OO.of (s1 _ _ Vt)⟩,?_⟩;refine dN (K:=K) (a:=lf) (xs:=us) (fun i σ H'=>JO H p d lf lw D fs n i σ H') ⟨[],_,_,_,rfl,hg.same s1,dS s1,WX,.nil⟩ (fun i σ H' _⟨_,_,_,_,_,_,b,_,_⟩=>OO.of (b _ _ Vt lfp)) ?_ ?_
  ·rintro i z σ H4 hz ⟨ops,v5,v6,v7,rfl,g4,b4,VN,U2⟩;obtain⟨f,hf,pf,rfl,U8⟩:=dB ML hz;have hi:=(Kx.mp hz).1;have mf:=KQ hf;have lo:=U2.length;rw[KG]at lo;have k4:=sI hg b4;have hTb4:=QD.but UU hg b4;obtain⟨kvs,Zl,Zm,hd,vw,vp,vm,Zy,Zz⟩:=id hTb4;refine⟨pf,_,rfl,ON.of (k4 _ _ U8),rfl,_,_,rfl,_,_,rfl,rfl,fun dd ndd=>?_⟩;have s5:=aj (o:=.dK []) ndd;refine⟨_,rfl,d,_,rfl,bA (s5 _ _ hd) vp,Zl,_,rfl,.inl (OO.of (s5 _ _ Zy)),_,rfl,d,_,rfl,bA (s5 _ _ hd) vm,Zm,_,rfl,.inl (OO.of (s5 _ _ Zz)),_,rfl,_,_,rfl,rfl,ae,[(Sum.inr Sn,.int ((ay D.places).length:Int)),(Sum.inr Su,.int ((ay D.marks).length:Int)),(Sum.inr S2,.int ((n:Int)+1))],rfl,by show 3<=15;decide,?_⟩;obtain⟨kv,ek,k1,k2,k3,k5⟩:=Iq (.int ((ay D.places).length:Int)) (.int ((ay D.marks).length:Int)) (.int ((n:Int)+1));have WY:eC [] [(Sum.inr Sn,V.int ((ay D.places).length:Int)),(Sum.inr Su,V.int ((ay D.marks).length:Int)),(Sum.inr S2,V.int ((n:Int)+1))]=kv:=ek;rw[WY];generalize zz:aM _ dd (HO.dK kv)=H6;obtain⟨s6,e6⟩:=qy ndd zz;clear zz;rw[dm]at k1 k2;have hbo:=Df (UK f mf) k1 k2 k3 k5;have g6:=g4.same s6;have b6:=b4.same s6;have We:=s6 _ _ VN;refine⟨dd,rfl,.inl ⟨_,.inl e6⟩,_,rfl,_,Pj.k (k:=Sum.inr f.2) e6,?_⟩;show _;rw[show(bq kv (Sum.inr f.2)).getD (V.int 0)=V.int (sG D n f.2:Nat)from hbo];refine⟨_,rfl,rfl,_,rfl,ce (fun h=>?_) (fun h=>?_)⟩
   ·have hN:f.2="number":=V.str.inj (h_ h);have hbn:oj D 999 f.2=2^D.width:=by rw[hN];unfold oj;rw[e_ zk,e_ zk,f_ rfl]
    refine⟨_,rfl,d,_,rfl,bA (s6 _ _ hd) vw,_,_,rfl,rfl,⟨by lia,by lia,zd⟩,OT,fun l7 n7=>?_⟩;have s7:=aj (o:=.lst [.int 4,.int (1*2^((D.width:Int)).toNat)]) n7;have e7:(aM H6 l7 (.lst [.int 4,.int (1*2^((D.width:Int)).toNat)])) l7=_:=ae;generalize aM H6 l7 (.lst [.int 4,.int (1*2^((D.width:Int)).toNat)])=H7 at s7 e7⊢;have pl7:p≠l7:=g6.ne n7;have ewd:(1:Int)*2^((D.width:Int)).toNat=((2^D.width:Nat):Int):=by
     have e1:((D.width:Int)).toNat=D.width:=by lia
     rw[e1,RE]
     norm_cast
    rw[ewd]at e7;refine⟨_,rfl,p,2,rfl,g6.same s7,zd,zd,fun r H8 MF g8 b8=>?_⟩;have e8:=b8 _ _ e7 pl7.symm;have elw8:=b8 _ _ (s7 _ _ We) XY.symm;have b08:=(b6.same s7).trans b8;have h16:2^4<=2^D.width:=K0 zd hW.w4;obtain⟨m,hm,Vs,YM⟩:∃m:Nat,oz ([.int 4,.int ((2^D.width:Nat):Int)]:Uv) (r:Int)=some (.int m)/\0<m/\m<=2^D.width:=by
     match r,MF with
     |0,_=>exact⟨4,bf (j:=0) rfl,zd,by lia⟩
     |1,_=>exact⟨2^D.width,bf (j:=1) rfl,by lia,KO _⟩
    refine⟨l7,_,_,_,rfl,rfl,OO.of e8,hm,?_⟩;refine⟨_,rfl,.inl ⟨rfl,_,OO.of elw8⟩,_,rfl,_,rfl,p,m,rfl,g8,Vs,by lia,fun o H9 ho g9 b9=>?_⟩;have WE:=b9 _ _ elw8 XY.symm;refine⟨lw,_,_,rfl,rfl,WE,by unfold aW;rw[Ky];lia,?_⟩;exact wF g9 (b08.trans b9) WE UT XY U2 hf (by lia) _ _ _ n
   ·have hN:f.2≠"number":=fun e=>h (a_ (d_ V.str e));have hz:0<sG D n f.2/\sG D n f.2<=oj D 999 f.2/\sG D n f.2<=1000:=by
     have hs:=UK f mf;have hm:=hmk f mf;unfold db at hs;simp only[KH,KY,j_]at hs;unfold sG oj;rcases hs with e|e|e|e
     ·rw[e,f_ rfl,f_ rfl];lia
     ·have:=hm e;rw[e,e_ zk,f_ rfl,e_ zk,f_ rfl];lia
     ·exact absurd e hN
     ·rw[e,e_ zk,e_ zk,f_ rfl,e_ zk,e_ zk,e_ zk];lia
    refine⟨_,rfl,.inl ⟨rfl,_,OO.of We⟩,_,rfl,_,rfl,p,sG D n f.2,rfl,g6,hz.1,by lia,fun o H9 ho g9 b9=>?_⟩;have WE:=b9 _ _ We XY.symm;refine⟨lw,_,_,rfl,rfl,WE,by unfold aW;rw[Ky];lia,?_⟩;exact wF g9 (b6.trans b9) WE UT XY U2 hf (by lia) _ _ _ n
  ·rintro σ H4 ⟨ops,v5,v6,v7,rfl,g4,b4,VN,U2⟩;rw[W5,K7]at U2;refine⟨_,rfl,lw,_,rfl,.inl ⟨OO.of VN,fun t nt=>?_⟩⟩;have s5:=aj (o:=.tup (aW ops)) nt;exact q t ops _ (g4.same s5) (b4.same s5) ae U2
end
def A7(hD:qI D fn gt):(gf D).length<=20000/\(TK.toks (gf D)).length<=1500/\pF ((TK.toks (gf D)).map S) D/\pL D:=by
 have tkF:=CD hD;have XF:=mD hD;have UO:=Al tkF XF;have ht:=xz tkF;refine⟨by lia,by rw[ht,Ky];exact mD hD,?_,uQ hD⟩;rw[ht,rS];exact CI hD
def Pd.but(h:Pd C H v D)(g:OX H p)(b:O4 p H H'):Pd C H' v D:=by
 obtain⟨a,dx,pp,pm,pn,pk,us,e,h1,h2,h3,h4,h5,h6⟩:=h;have k:=sI g b;exact⟨a,dx,pp,pm,pn,pk,us,e,b _ _ h1 (bS g h1 (fun _ _ _ z=>by cases z)),k _ _ h2,k _ _ h3,k _ _ h4,k _ _ h5,bD (fun _ _ h=>QC.kt k h) h6⟩
variable{us:Uv}{H:Hp}{lk:Ul}
def Dg{ks:List Kn}(h:Paired (Rl lk H) us ks)(x y z:Int):HO.lst us≠o0 x y z:=by
 intro e;have e':us=[V.int x,.int y,.int z]:=by
  unfold o0 at e;exact HO.lst.inj e
 subst e';cases h with
 |cons h _=>
  obtain⟨t,lf,b,e,_⟩:=h;cases e
def Rn.but{H H':Hp}{p d:Ul}{D:Fm}{gt:Option Nat}{kvs:List (cQ×V)}{lp lm lk:Ul}(h:Rn H d D gt kvs lp lm lk us)(g:OX H p)(b:O4 p H H'):Rn H' d D gt kvs lp lm lk us:=
 ⟨b _ _ h.ed (bS g h.ed (fun _ _ _ z=>by cases z)),h.v1,h.v2,h.v3,h.v4,h.v5,h.v6,h.v7,b _ _ h.ep (bS g h.ep (cJ _)),b _ _ h.em (bS g h.em (cJ _)),b _ _ h.ek (bS g h.ek (Dg h.ks)),bD (fun _ _ h'=>Rl.kp (sI g b) (zP g b) h') h.ks⟩
def qC(K:ZF):Sp:=fun vs H Q _=>∃(a:Ul)(ns:List Int),vs=[.ref a]/\OO K H a (ns.map V.int)/\ns.length<=63/\∀H',Q (.bl true) H'
def Rn.tb(h:Rn H d D gt kvs lp lm lk us):DY H d D:=⟨kvs,lp,lm,h.ed,h.v1,h.v4,h.v5,h.ep,h.em⟩
def A8(h:OO K H a xs)(s:OM H H'):OO K H' a xs:=by
 rcases h with(h|⟨o,h⟩)|h
 ·exact .inl (.inl (s _ _ h))
 ·exact .inl (.inr ⟨o,s _ _ h⟩)
 ·exact .inr h
section
def Pm:az [S0,Tk,Sj,Si,TM,TQ,"_law_again",Sl] [S0] (ak w6):=cv zk
def A9(F:O0 K "law" "law" w6 f fd)(B:Bl mg)(CL:Fn P w K mg base "_law_cell" 1 [S0,Tk] (tV K))(ST:Fn P w K mg base "_law_stream" 1 [Tr] lM)(J':Fn P w K mg base "_law_take" 1 [Sj,SB] eO)(LT:Fn P w K mg base "_law_table" n [Sj,TH] my)
  (TX:Fn P w K mg base "_law_text" n [Si] qd) (RT:Fn P w K mg base "read_table" n [Tu] (Fl C)) (OP:Fn P w K mg base "_law_operands" 2 [Sj,Si,Sk,S3] A6) (LR:Fn P w K mg base "_law_right" n [TM,Si,TQ,Sl] (Gm C)) (hn:2<=n):OQ P w K mg base bQ (n+1) f fd [S0] (qC K):=by
 have ZZ:=Pm
 walk_at "o"
 ·obtain⟨l,ns,rfl,hS,hl,q⟩:=h;have hu:=eo hr;have ME:OU 1 _:=hr.mono (by lia);have MF:OU 2 _:=hr.mono hn;refine⟨_,(ac (cc g_ rfl (dF rfl B.range (aa (aI (gT rfl) (by rfl) B.max B_ (aa af (aa (aI (ni rfl) (by rfl) B.min PyProof.Rows.boot_min (aa (aI aL (by rfl) B.len KW (aa (pv 0) ab)) (aa af ab))) ab))) ab)) (cq (i:=1) Pm.nd) (ac (bL (i:=2) Pm.nd (ax ST ME rfl (aa (ax CL ME rfl (aa (pv 0) (aa (pv 1) ab))) ab))) (ac (bL (i:=3) Pm.nd (ax LT hr rfl (aa (pv 2) (aa af ab)))) (ac (bL (i:=4) Pm.nd (ax RT hr rfl (aa (ax TX hr rfl (aa (pv 3) ab)) ab))) (ag (cc g_ rfl (cm (bx hu (pv 3) ai)) (cq (i:=5) Pm.nd) (ag (cc g_ rfl (dF rfl B.range (aa af ab)) (cq (i:=6) Pm.nd) (ac (bL (i:=7) Pm.nd (ax OP MF rfl (aa (pv 2) (aa (pv 3) (aa (aB aJ (pv 5) af) (aa (aB aU (aP (aa af (aa af ab))) (ax J' ME rfl (aa (pv 2) (aa af ab)))) ab)))))) (ag (aT (cE (bT (ax LR hr rfl (aa (pv 4) (aa (pv 3) (aa (pv 5) (aa (pv 7) ab))))))) (ag (aw fH)) aG))))))))))) (ag (aw fH))),?_⟩;refine⟨_,rfl,l,_,rfl,.inl hS,_,_,rfl,_,_,rfl,_,rfl,?_,?_,?_⟩
  ·split<;>(try split)<;>lia
  ·rw[Ky];split<;>(try split)<;>lia
  refine dG (lo:=0) (fun i σ H'=>∃v1 v2 v3 v4 v5 v6 v7:Option V,σ=[some (.ref l),v1,v2,v3,v4,v5,v6,v7]/\OM H H') ⟨_,_,_,_,_,_,_,rfl,OM.refl _⟩ ?_ ?_
  ·rintro i σ H1 hi ⟨v1,v2,v3,v4,v5,v6,v7,rfl,s1⟩;refine⟨_,rfl,_,rfl,l,ns,0+(i:Int),rfl,A8 hS s1,by lia,fun c=>⟨c,rfl,fun p H2 np s2 g2=>?_⟩⟩;refine⟨_,rfl,p,3,rfl,g2,zd,zd,fun d H3 D gt kvs lp lm lk us fn g3 b3 hV hD=>?_⟩;obtain⟨o1,o2,o3,o4⟩:=A7 hD;refine⟨_,rfl,d,D,gt,kvs,lp,lm,lk,us,fn,rfl,hV,hD,fun H4 s4=>⟨gf D,D,rfl,o1,o2,o3,o4,fun vt H5 s5 T5=>?_⟩⟩;have s35:=s4.trans s5;have g5:=g3.same s35;have V5:=hV.same s35;have pH1:∀{x o},H1 x=some o->x≠p:=fun e=>ao e np;have s15:OM H1 H5:=fun x o e=>s35 _ _ (b3 _ _ (s2 _ _ e) (pH1 e));refine⟨_,rfl,d,_,rfl,bA V5.ed V5.v7,lk,rfl,⟨_,OO.of V5.ek⟩,?_⟩;have plk:lk≠p:=bS g5 V5.ek (by
    intro x y z e;have e1:=HO.lst.inj e;obtain⟨_,_,t,lf,b,e2,_⟩:=dB V5.ks (show us[0]?=some (.int x)by rw[e1];rfl);cases e2)
   refine dN (K:=K) (a:=lk) (xs:=us) (fun j σ H'=>∃v5 v6 v7:Option V,σ=[some (.ref l),some (.int (0+(i:Int))),some (.ref p),some (.ref d),some vt,v5,v6,v7]/\OX H' p/\O4 p H5 H') ⟨_,_,_,rfl,g5,O4.refl _ _⟩ (fun j σ H' _⟨_,_,_,_,_,b⟩=>OO.of (b _ _ V5.ek plk)) ?_ ?_
   ·rintro j z σ H6 hz ⟨v5,v6,v7,rfl,g6,b6⟩;obtain⟨x,hx,tk,lf,b,rfl,_,Wg,VZ,hdd⟩:=dB V5.ks hz;have mx:=KQ hx;obtain⟨c',k',hm,Ya⟩:=hD.kl;refine⟨_,rfl,zd,zd,?_⟩;refine dG (lo:=0) (fun r σ H'=>∃v6 v7:Option V,σ=[some (.ref l),some (.int (0+(i:Int))),some (.ref p),some (.ref d),some vt,some (.ref tk),v6,v7]/\OX H' p/\O4 p H5 H') ⟨_,_,rfl,g6,b6⟩ ?_ ?_
    ·rintro r σ H7 hr' ⟨v6,v7,rfl,g7,b7⟩;have k57:=sI g5 b7;have V7:=V5.but g5 b7;have T7:=Pd.but T5 g5 b7;have hfs7:=QE.but VZ g5 b7;refine⟨_,rfl,_,rfl,_,rfl,tk,_,_,_,rfl,rfl,ON.of (k57 _ _ Wg),rfl,OT,fun l8 n8=>?_⟩;have s8:=aj (o:=.lst [.int 3,.int 998]) n8;have e8:(aM H7 l8 (.lst [.int 3,.int 998])) l8=_:=ae;generalize aM H7 l8 (.lst [.int 3,.int 998])=H8 at s8 e8⊢;have pl8:p≠l8:=g7.ne n8;refine⟨_,rfl,p,2,rfl,g7.same s8,zd,zd,fun r2 H9 Yp g9 b9=>?_⟩;obtain⟨m,X_,Vs⟩:∃m:Nat,oz ([.int 3,.int 998]:Uv) (r2:Int)=some (.int m)/\m<=998:=by
      match r2,Yp with
      |0,_=>exact⟨3,bf (j:=0) rfl,zd⟩
      |1,_=>exact⟨998,bf (j:=1) rfl,zd⟩
     have Vv:O4 p H7 H9:=(dS s8).trans b9;have b59:=b7.trans Vv;have V9:=V5.but g5 b59;refine⟨l8,_,_,_,rfl,rfl,OO.of (b9 _ _ e8 pl8.symm),X_,p,d,lf,D,x.fs,m,rfl,g9,V9.tb,QE.but VZ g5 b59,pZ hD mx,A5 hD,hD.p1,(Ya x mx).st,(Ya x mx).mq,Vs,fun t ops Y6 g10 b10 et Zu=>?_⟩;have Xs:=b59.trans b10;have k510:=sI g5 Xs;have V10:=V5.but g5 Xs;refine⟨_,rfl,_,rfl,_,rfl,_,rfl,vt,b,d,tk,t,lf,D,x,ops,rfl,Pd.but T5 g5 Xs,V10.tb,A5 hD,k510 _ _ Wg,hdd.kt k510,et,Gk hD mx Zu,fun Y5 U6=>⟨_,rfl,bP ?_⟩⟩;exact⟨_,_,rfl,g10.same U6,Xs.same U6⟩
    ·rintro σ H7 ⟨v6,v7,rfl,g7,b7⟩;exact⟨_,_,_,rfl,g7,b7⟩
   ·rintro σ H6 ⟨v5,v6,v7,rfl,g6,b6⟩;exact⟨_,_,_,_,_,_,_,rfl,fun x o e=>b6 _ _ (s15 _ _ (s1 _ _ e)) (pH1 (s1 _ _ e))⟩
  ·rintro σ H5 ⟨v1,v2,v3,v4,v5,v6,v7,rfl,s5⟩;exact q H5
end
def aZ(K:ZF)(x:Str)(st:Stmt)(f:Ul):Prop:=
 PySem.W.nsIn K mainGlobals x=some (some (.ref f))/\∃fd:Ur,O0 K x x st f fd
variable{f:Ul}{x:Str}{K:ZF}
def Go{st:Stmt}{oc:Uk}{od an:Option Ul}{UN:Array (Option Uk)}{kV doc pm MN ct:Uk}(a:PySem.W.nsIn K mainGlobals x=some (some (.ref f)))
  (l:K.lookup f=some ⟨oc,od,.func (PySem.W.fnOf x x (dv st) (cN st) (ak st) .none kV doc pm an MN ct),UN⟩) (c:PySem.W.codeIn K MN x=true) (k:PySem.W.keepIn K (.ref f)=true):aZ K x st f:=⟨a,_,yj l c k⟩
variable{st:Stmt}{mg:Str->Option Uk}
def Iu{P:Uo}{w:Up}{base h:Heap}{k:Nat}{ps:Us}{sp:Sp}(X:K.In h)(G:h.Ns mainGlobals mg)(D:aZ K x st f)
  (hb:∀(kV doc pm:Uk)(an:Option Ul)(MN ct:Uk)(us:List Uk),us.length=ps.length->bindArgs (PySem.W.fnOf x x (dv st) (cN st) (ak st) .none kV doc pm an MN ct) ⟨us,[]⟩=pure (ps.zip us))
  (ok:∀fd,O0 K x x st f fd->OQ P w K mg base bQ k f fd ps sp):Fn P w K mg base x k ps sp:=by
 obtain⟨a,fd,F⟩:=D;exact⟨f,fd,Ld X G a,F.kp,F.binds hb,ok fd F⟩
structure mZ(K:ZF)(x qual:Str)(st:Stmt)(f:Ul):Prop where
 fu:∃fd:Ur,O0 K x qual st f fd
 fn:PySem.W.isFn K (.ref f)=true
def Gp{K:ZF}{x qual:Str}{st:Stmt}{f:Ul}{oc:Uk}{od an:Option Ul}{UN:Array (Option Uk)}{kV doc pm MN ct:Uk}
  (l:K.lookup f=some ⟨oc,od,.func (PySem.W.fnOf x qual (dv st) (cN st) (ak st) .none kV doc pm an MN ct),UN⟩) (c:PySem.W.codeIn K MN qual=true) (k:PySem.W.keepIn K (.ref f)=true) (n:PySem.W.isFn K (.ref f)=true):mZ K x qual st f:=⟨⟨_,yj l c k⟩,n⟩
variable{qual:Str}
def dY{P:Uo}{w:Up}{mg:Str->Option Uk}{base:Heap}{Cc f:Ul}{k:Nat}{ps:Us}{sp:Sp}(a:PySem.W.findIn K (.ref Cc) x=some (some (.ref f)))(D:mZ K x qual st f)
  (hb:∀(kV doc pm:Uk)(an:Option Ul)(MN ct:Uk)(us:List Uk),us.length=ps.length->bindArgs (PySem.W.fnOf x qual (dv st) (cN st) (ak st) .none kV doc pm an MN ct) ⟨us,[]⟩=pure (ps.zip us))
  (ok:∀fd,O0 K x qual st f fd->OQ P w K mg base bQ k f fd ps sp):cD P w K mg base Cc x k ps sp:=by
 obtain⟨⟨fd,F⟩,n⟩:=D;exact⟨f,fd,⟨a,n,F.kp⟩,ok fd F,F.binds hb⟩
def qD{P:Uo}{w:Up}{mg:Str->Option Uk}{base:Heap}{ps:Us}{sp:Sp}(D:mZ K x qual st f)
  (hb:∀(kV doc pm:Uk)(an:Option Ul)(MN ct:Uk)(us:List Uk),us.length=ps.length->bindArgs (PySem.W.fnOf x qual (dv st) (cN st) (ak st) .none kV doc pm an MN ct) ⟨us,[]⟩=pure (ps.zip us))
  (ok:∀fd,O0 K x qual st f fd->OQ P w K mg base bQ 1 f fd ps sp):∃fd,OQ P w K mg base bQ 1 f fd ps sp/\Pb K fd ps []:=by
 obtain⟨⟨fd,F⟩,n⟩:=D;exact⟨fd,ok fd F,F.binds hb⟩
def Iv(K:ZF)(tk:Tok)(f:Ul):Prop:=
 PySem.W.nsIn K mainGlobals "state_of"=some (some (.ref f))/\∃fd:Ur,Qk K "state_of" "state_of" eK (F0 tk) f fd
def Dh{f d:Ul}{tk:Tok}{oc:Uk}{od an:Option Ul}{UN:Array (Option Uk)}{kV doc pm MN ct:Uk}{n:Nat}{oc2:Uk}{od2:Option Ul}{osl2:Array (Option Uk)}(a:PySem.W.nsIn K mainGlobals "state_of"=some (some (.ref f)))
  (l:K.lookup f=some ⟨oc,od,.func (PySem.W.fnOf "state_of" "state_of" (dv eK) (cN eK) (ak eK) (.ref d) kV doc pm an MN ct),UN⟩) (e:K.lookup d=some ⟨oc2,od2,.seq #[.int 0 tk,.none,.none,.none,.none] n,osl2⟩) (c:PySem.W.codeIn K MN "state_of"=true) (k:PySem.W.keepIn K (.ref f)=true):Iv K tk f:=
 ⟨a,_,⟨⟨oc,od,kV,doc,pm,an,MN,ct,UN,d,_,n,rfl,l,c,e,rfl⟩,k⟩⟩
def PK(K:ZF)(c:Ul):Us->Prop
 |[]=>True
 |f::r=>O1 K c f/\PK K c r
variable{c:Ul}
def PK.get:∀{l:Us},PK K c l->∀f∈l,O1 K c f
 |[],_,f,hf=>absurd hf (by simp)
 |g::r,h,f,hf=>by
  rcases KH.mp hf with rfl|hf
  ·exact h.1
  ·exact PK.get h.2 f hf
structure CK(K:ZF)(n:Str)(c i:Ul)(fl:Us):Prop where
 ns:PySem.W.nsIn K mainGlobals n=some (some (.ref c))
 cls:QH K c
 na:PK K c fl
 mk_:Mk K c i
def Ba{n:Str}{c i:Ul}{fl:Us}(ns:PySem.W.nsIn K mainGlobals n=some (some (.ref c)))(g1:PySem.W.plainGet K c Str.empty=true)(g2:PySem.W.hasDictIn K c=true)(g3:PySem.W.plainOver K c=true)
  (g4:PySem.W.findIn K (.ref c) "__setattr__"=some (some (.builtin "object.__setattr__"))) (m1:PySem.W.makesIn K c=true) (m2:PySem.W.findIn K (.ref c) "__init__"=some (some (.ref i))) (m3:PySem.W.isFn K (.ref i)=true) (m4:PySem.W.keepIn K (.ref c)=true) (na:PK K c fl):CK K n c i fl:=
 ⟨ns,⟨g1,g2,g3,g4⟩,na,⟨m1,m2,m3,m4⟩⟩
variable{a b d:Str}
def Ku(x:PySem.W.findIn K (.ref c) a=some none)(y:PySem.W.findIn K (.ref c) b=some none)(z:PySem.W.findIn K (.ref c) d=some none):PK K c [a,b,d]:=⟨x,y,z,trivial⟩
def Kv{a b d e f g h i:Str}(x:PySem.W.findIn K (.ref c) a=some none)(y:PySem.W.findIn K (.ref c) b=some none)(z:PySem.W.findIn K (.ref c) d=some none)(u:PySem.W.findIn K (.ref c) e=some none)(x1:PySem.W.findIn K (.ref c) f=some none)(y1:PySem.W.findIn K (.ref c) g=some none)(z1:PySem.W.findIn K (.ref c) h=some none)(u1:PySem.W.findIn K (.ref c) i=some none):PK K c [a,b,d,e,f,g,h,i]:=⟨x,y,z,u,x1,y1,z1,u1,trivial⟩
def Kw{a b d e f g h:Str}(x:PySem.W.findIn K (.ref c) a=some none)(y:PySem.W.findIn K (.ref c) b=some none)(z:PySem.W.findIn K (.ref c) d=some none)(u:PySem.W.findIn K (.ref c) e=some none)(x1:PySem.W.findIn K (.ref c) f=some none)(y1:PySem.W.findIn K (.ref c) g=some none)(z1:PySem.W.findIn K (.ref c) h=some none):PK K c [a,b,d,e,f,g,h]:=⟨x,y,z,u,x1,y1,z1,trivial⟩
def fc:∀(zs:Us)(ts:List Tok),ts.length=zs.length->OV (zs.map V.str) ((zs.zip ts).map fun p=>Value.str p.1 p.2)
 |[],_,_=>.nil
 |z::r,[],h=>by cases h
 |z::r,t::u,h=>.cons ⟨t,rfl⟩ (fc r u (by simpa using h))
def Gq{w:Up}{K:ZF}{a f1 f2 f3 f4 f5 f6 f7 f8 f9:Ul}{t1 t2 t3 t4 t5 t6 t7 t8 t9:Tok}{ep:Nat}
  (h:K.lookup a=some {cls:=.type "dict",data:=.dict #[⟨PyData.keyHash w.params "+",.str "+" t1,.ref f1⟩,⟨PyData.keyHash w.params "-",.str "-" t2,.ref f2⟩,⟨PyData.keyHash w.params "&",.str "&" t3,.ref f3⟩,⟨PyData.keyHash w.params "|",.str "|" t4,.ref f4⟩,⟨PyData.keyHash w.params "^",.str "^" t5,.ref f5⟩,
   ⟨PyData.keyHash w.params "<<",.str "<<" t6,.ref f6⟩,⟨PyData.keyHash w.params ">>",.str ">>" t7,.ref f7⟩,⟨PyData.keyHash w.params "<",.str "<" t8,.ref f8⟩,⟨PyData.keyHash w.params "=",.str "=" t9,.ref f9⟩] ep}) :
  kg w K a [("+",.ref f1),("-",.ref f2),("&",.ref f3),("|",.ref f4),("^",.ref f5),("<<",.ref f6),(">>",.ref f7),("<",.ref f8),("=",.ref f9)]:=
 ⟨_,ep,h,.cons ⟨rfl,⟨_,rfl⟩,rfl⟩ (.cons ⟨rfl,⟨_,rfl⟩,rfl⟩ (.cons ⟨rfl,⟨_,rfl⟩,rfl⟩ (.cons ⟨rfl,⟨_,rfl⟩,rfl⟩ (.cons ⟨rfl,⟨_,rfl⟩,rfl⟩ (.cons ⟨rfl,⟨_,rfl⟩,rfl⟩ (.cons ⟨rfl,⟨_,rfl⟩,rfl⟩ (.cons ⟨rfl,⟨_,rfl⟩,rfl⟩ (.cons ⟨rfl,⟨_,rfl⟩,rfl⟩ .nil))))))))⟩
variable{w:Up}
def de{P:Uo}{base:Heap}{j k:Nat}{ps:Us}{sp:Sp}(h:Fn P w K mg base x j ps sp)(hk:j<=k):Fn P w K mg base x k ps sp:=by obtain⟨f,fd,a,b,c,d⟩:=h;exact ⟨f,fd,a,b,c,d.mono hk⟩
def qE{a:Ul}{t1 t2 t3 t4 t5 t6 t7 t8 t9 t10 t11 t12 t13 t14 t15 t16 t17 t18 t19 t20 t21 t22:Tok}{n:Nat}(h:K.lookup a=some {cls:=.type "tuple",data:=.seq #[.str SE t1,.str Sw t2,.str Sx t3,.str So t4,.str Ss t5,.str SS t6,.str SF t7,.str Sn t8,.str Su t9,.str "number" t10,.str S2 t11,.str "set" t12,.str Ub t13,.str TD t14,.str Ta t15,.str S4 t16,.str Ts t17,.str SH t18,.str Tf t19,.str Tg t20,.str Sy t21,.str "bell" t22] n}):∀H,ON K H a (ay PQ):=fun H=>
 .inr ⟨_,_,n,h,rfl,rfl,OT,fc [SE,Sw,Sx,So,Ss,SS,SF,Sn,Su,"number",S2,"set",Ub,TD,Ta,S4,Ts,SH,Tf,Tg,Sy,"bell"] [t1,t2,t3,t4,t5,t6,t7,t8,t9,t10,t11,t12,t13,t14,t15,t16,t17,t18,t19,t20,t21,t22] rfl⟩
def Bb{a:Ul}{t1 t2 t3 t4:Tok}{n:Nat}(h:K.lookup a=some {cls:=.type "tuple",data:=.seq #[.str Sn t1,.str Su t2,.str "number" t3,.str S2 t4] n}):∀H,ON K H a (ay db):=fun H=>
 .inr ⟨_,_,n,h,rfl,rfl,OT,fc [Sn,Su,"number",S2] [t1,t2,t3,t4] rfl⟩
def Di{a:Ul}{t1 t2 t3 t4 t5 t6:Tok}{n:Nat}(h:K.lookup a=some {cls:=.type "tuple",data:=.seq #[.str S4 t1,.str Ts t2,.str SH t3,.str Tf t4,.str Tg t5,.str Sy t6] n}):∀H,ON K H a (ay [S4,Ts,SH,Tf,Tg,Sy]):=fun H=>
 .inr ⟨_,_,n,h,rfl,rfl,OT,fc [S4,Ts,SH,Tf,Tg,Sy] [t1,t2,t3,t4,t5,t6] rfl⟩
def m6{a:Ul}{t1 t2:Tok}{n:Nat}(h:K.lookup a=some {cls:=.type "tuple",data:=.seq #[.str TV t1,.str TY t2] n}):∀H,ON K H a (ay [TV,TY]):=fun H=>
 .inr ⟨_,_,n,h,rfl,rfl,OT,fc [TV,TY] [t1,t2] rfl⟩
def ka{a:Ul}{t1 t2:Tok}{n:Nat}(h:K.lookup a=some {cls:=.type "tuple",data:=.seq #[.str "<<" t1,.str ">>" t2] n}):∀H,ON K H a ([.str "<<",.str ">>"]):=fun H=>
 .inr ⟨_,_,n,h,rfl,rfl,OT,fc ["<<",">>"] [t1,t2] rfl⟩
variable{P:List Uk->Prop}
def u0(h:P []):∀us:List Uk,us.length=0->P us
 |[],_=>h
def u1(h:∀a,P [a]):∀us:List Uk,us.length=1->P us
 |[_],_=>h _
def u2(h:∀a b,P [a,b]):∀us:List Uk,us.length=2->P us
 |[_,_],_=>h _ _
def u3(h:∀a b c,P [a,b,c]):∀us:List Uk,us.length=3->P us
 |[_,_,_],_=>h _ _ _
def u4(h:∀a b c d,P [a,b,c,d]):∀us:List Uk,us.length=4->P us
 |[_,_,_,_],_=>h _ _ _ _
def u5(h:∀a b c d e,P [a,b,c,d,e]):∀us:List Uk,us.length=5->P us
 |[_,_,_,_,_],_=>h _ _ _ _ _
def u6(h:∀a b c d e f,P [a,b,c,d,e,f]):∀us:List Uk,us.length=6->P us
 |[_,_,_,_,_,_],_=>h _ _ _ _ _ _
def u8(h:∀a b c d e f g h,P [a,b,c,d,e,f,g,h]):∀us:List Uk,us.length=8->P us
 |[_,_,_,_,_,_,_,_],_=>h _ _ _ _ _ _ _ _
def Gr{l:PySem.W.OpenLaw}{w:Up}{h:Heap}{fa f0 f1 f2 f3 f4 f5 f6 f7 f8 f9 f10 f11 f12 f13 f14 f15 f16 f17 f18 f19 f20 f21 f22 f23 f24 f25 f26 f27 f28 f29 f30 f31 f32 f33 f34 f35 f36 f37 f38 f39 f40 f41 f42 f43 f44 f45 f46 f47 f48 f49 f50 f51 f52 f53 f54 f55 f56 f57 f58 f59 f60 f61 f62 f63 f64 f65 f66 f67 f68 f69 f70 f71 f72 f73 cR iR cT iT cS iS cW iW NY N6 N0 N2 N3 N1 NX NQ NP N4 N5 NZ NV NS Nd Nf Nb Nc Na aO e1 e2 e3 e4 e5 e6 e7 e8 e9 fSO:Ul}{NF NB NL NG NE NH ND NC NJ Ny Nv Nz Nw NN NO:Tok}(X:K.In h)(G:h.Ns mainGlobals mg)(hfa:mg "law"=some (.ref fa))
  (d0:aZ K "number_of" gY f0)
  (d1:aZ K "is_whole" tH f1)
  (d2:aZ K "is_within" oJ f2)
  (d3:aZ K "is_name" nN f3)
  (d4:aZ K "ops_told" EJ f4)
  (d5:aZ K "read_form" jB f5)
  (d6:aZ K "read_bounded" gr f6)
  (d7:aZ K "read_names" iy f7)
  (d8:aZ K "read_kind" jC f8)
  (d9:aZ K "read_fields" gI f9)
  (d10:aZ K "read_field" iz f10)
  (d11:aZ K "read_body" jD f11)
  (d12:aZ K "read_choice" gJ f12)
  (d13:aZ K "read_test" jE f13)
  (d14:aZ K "read_leaf" gZ f14)
  (d15:aZ K "read_set" lC f15)
  (d16:aZ K "read_end" lD f16)
  (d17:aZ K "read_expression" jF f17)
  (d18:aZ K "read_cell" jG f18)
  (d19:aZ K "read_two" lE f19)
  (d20:aZ K "table_of_form" gu f20)
  (d21:aZ K "add_name" lF f21)
  (d22:aZ K "need_known" iA f22)
  (d23:aZ K "kinds_named" gK f23)
  (d24:aZ K "names_with_fields" iB f24)
  (Z7:aZ K "deed_of" km f25)
  (d26:aZ K "test_of" oK f26)
  (d27:aZ K "set_of" tI f27)
  (d28:aZ K "end_of" tJ f28)
  (Z6:aZ K "expression_of" oM f29)
  (d30:aZ K "tokens_of" oN f30)
  (d31:aZ K "sign_at" yA f31)
  (d32:aZ K "run_at" EK f32)
  (d33:aZ K "read_table" iC f33)
  (d34:aZ K "_law_cell" yB f34)
  (d35:aZ K "_law_stream" oO f35)
  (d36:aZ K "_law_take" yC f36)
  (d37:aZ K "_law_names" tK f37)
  (d38:aZ K "_law_sel" vM f38)
  (d39:aZ K "_law_atom" oP f39)
  (Z5:aZ K "_law_expr" tO f40)
  (d41:aZ K "_law_sets" oQ f41)
  (d42:aZ K "_law_end" vN f42)
  (Z4:aZ K "_law_deed" tP f43)
  (d44:aZ K "_law_table" oR f44)
  (d45:aZ K "_law_sel_text" lG f45)
  (Z2:aZ K "_law_expr_text" jH f46)
  (Z1:aZ K "_law_deed_text" jI f47)
  (d48:aZ K "_law_text" iD f48)
  (d49:aZ K "is_word" Ay f49)
  (d50:aZ K "truth_of" tQ f50)
  (d51:aZ K "top_of" EL f51)
  (d52:aZ K "holds" tR f52)
  (d53:aZ K "is_row" oT f53)
  (d54:aZ K "is_operand" iE f54)
  (d55:aZ K "highest_word" yD f55)
  (d56:aZ K "is_list_of" oU f56)
  (d57:aZ K "is_list_to" ko f57)
  (d58:aZ K "need_row" lH f58)
  (d59:aZ K "ways_of" oV f59)
  (Z0:aZ K "tests_to_leaves" yE f60)
  (d61:aZ K "is_led" oW f61)
  (d62:aZ K "let_hold" lI f62)
  (d63:aZ K "_law_number" lJ f63)
  (d64:aZ K "_law_holds" oX f64)
  (d65:aZ K "_law_operands" iF f65)
  (Y3:aZ K "_law_tests" oY f66)
  (ZY:aZ K "_law_leaf" tU f67)
  (d68:aZ K "_law_words" oZ f68)
  (d69:aZ K "_law_all" yF f69)
  (d70:aZ K "_law_states" lK f70)
  (d71:aZ K "_law_due" vO f71)
  (d72:aZ K "_law_right" oS f72)
  (d73:aZ K "law" w6 f73)
  (CR:CK K "Reader" cR iR [S7,T_,"may_end"]) (IR:mZ K "__init__" "Reader.__init__" uq iR)
  (CT:CK K "Table" cT iT [Sr,Sw,Sx,So,Ss,SS,S5,SN]) (IT:mZ K "__init__" "Table.__init__" pJ iT)
  (CS:CK K "State" cS iS [Uj,So,Ss,Sw,Ue,SE,Sy]) (IS:mZ K "__init__" "State.__init__" uV iS)
  (CW:CK K "Way" cW iW [SQ,T0,S_]) (IW:mZ K "__init__" "Way.__init__" uX iW)
  (Nl:PySem.W.findIn K (.ref cR) "look"=some (some (.ref NY))) (MX:mZ K "look" "Reader.look" yI NY)
  (Nu:PySem.W.findIn K (.ref cR) "take"=some (some (.ref N6))) (M9:mZ K "take" "Reader.take" Jq N6)
  (Nn:PySem.W.findIn K (.ref cR) "need"=some (some (.ref N0))) (MZ:mZ K "need" "Reader.need" yJ N0)
  (Np:PySem.W.findIn K (.ref cR) "need_name"=some (some (.ref N2))) (M5:mZ K "need_name" "Reader.need_name" jK N2)
  (Nq:PySem.W.findIn K (.ref cR) "need_number"=some (some (.ref N3))) (M6:mZ K "need_number" "Reader.need_number" gM N3)
  (No:PySem.W.findIn K (.ref cR) "need_end"=some (some (.ref N1))) (M0:mZ K "need_end" "Reader.need_end" lN N1)
  (Nk:PySem.W.findIn K (.ref cT) "kind_at"=some (some (.ref NX))) (MV:mZ K "kind_at" "Table.kind_at" pM NX)
  (Nh:PySem.W.findIn K (.ref cT) "fields_of"=some (some (.ref NQ))) (MS:mZ K "fields_of" "Table.fields_of" jS NQ)
  (Ng:PySem.W.findIn K (.ref cT) To=some (some (.ref NP))) (MR:mZ K To "Table.deed" zq NP)
  (Nr:PySem.W.findIn K (.ref cW) "number_told"=some (some (.ref N4))) (M7:mZ K "number_told" "Way.number_told" mO N4)
  (Nt:PySem.W.findIn K (.ref cW) "place_word"=some (some (.ref N5))) (M8:mZ K "place_word" "Way.place_word" qi N5)
  (Nm:PySem.W.findIn K (.ref cW) "mark_bit"=some (some (.ref NZ))) (MY:mZ K "mark_bit" "Way.mark_bit" uY NZ)
  (Nj:PySem.W.findIn K (.ref cW) "give_place"=some (some (.ref NV))) (MU:mZ K "give_place" "Way.give_place" qj NV)
  (Ni:PySem.W.findIn K (.ref cW) "give_mark"=some (some (.ref NS))) (MT:mZ K "give_mark" "Way.give_mark" qk NS)
  (Oh:PySem.W.nsIn K mainGlobals "MOST_FIGURES"=some (some (.int 9 NF)))
  (Od:PySem.W.nsIn K mainGlobals "LONGEST_NAME"=some (some (.int 8 NB)))
  (Om:PySem.W.nsIn K mainGlobals "MOST_TOKENS"=some (some (.int 1500 NL)))
  (Oi:PySem.W.nsIn K mainGlobals "MOST_KINDS"=some (some (.int 8 NG)))
  (Og:PySem.W.nsIn K mainGlobals "MOST_FIELDS"=some (some (.int 3 NE)))
  (Oj:PySem.W.nsIn K mainGlobals "MOST_SETS"=some (some (.int 4 NH)))
  (Of:PySem.W.nsIn K mainGlobals "MOST_CHOICES"=some (some (.int 3 ND)))
  (Oe:PySem.W.nsIn K mainGlobals "MOST_BRACKETS"=some (some (.int 3 NC)))
  (Ol:PySem.W.nsIn K mainGlobals "MOST_SIGNS"=some (some (.int 20000 NJ)))
  (Ob:PySem.W.nsIn K mainGlobals "HIGHEST_ROW"=some (some (.int 999 Ny)))
  (N9:PySem.W.nsIn K mainGlobals "FIGURES"=some (some (.str "0123456789" Nv)))
  (Oc:PySem.W.nsIn K mainGlobals "LETTERS"=some (some (.str "abcdefghijklmnopqrstuvwxyz" Nz)))
  (Oa:PySem.W.nsIn K mainGlobals "GAPS"=some (some (.str " \n" Nw)))
  (Oq:PySem.W.nsIn K mainGlobals "SINGLE_SIGNS"=some (some (.str "(){}[],;+-&|^<=" NN)))
  (Op:PySem.W.nsIn K mainGlobals "OWN_WORDS"=some (some (.ref Nd))) (Ow:∀H,ON K H Nd (ay PQ))
  (Os:PySem.W.nsIn K mainGlobals "SORTS"=some (some (.ref Nf))) (Ox:∀H,ON K H Nf (ay db))
  (N8:PySem.W.nsIn K mainGlobals "ENDS"=some (some (.ref Nb))) (Ou:∀H,ON K H Nb (ay [S4,Ts,SH,Tf,Tg,Sy]))
  (Oo:PySem.W.nsIn K mainGlobals "OWN_FAULTS"=some (some (.ref Nc))) (Ov:∀H,ON K H Nc (ay [TV,TY]))
  (N7:PySem.W.nsIn K mainGlobals "DOUBLE_SIGNS"=some (some (.ref Na))) (Ot:∀H,ON K H Na ([.str "<<",.str ">>"]))
  (On:PySem.W.nsIn K mainGlobals "OPS"=some (some (.ref aO))) (dO:kg w K aO [("+",.ref e1),("-",.ref e2),("&",.ref e3),("|",.ref e4),("^",.ref e5),("<<",.ref e6),(">>",.ref e7),("<",.ref e8),("=",.ref e9)]) (lo:(aO==sysModules)=false)
  (dSO:Iv K NO fSO)
  (OE:PySem.W.nsIn K mainGlobals "len"=some none)
  (OC:PySem.W.nsIn K mainGlobals "int"=some none)
  (OG:PySem.W.nsIn K mainGlobals "max"=some none)
  (OH:PySem.W.nsIn K mainGlobals "min"=some none)
  (OI:PySem.W.nsIn K mainGlobals "range"=some none)
  (OD:PySem.W.nsIn K mainGlobals "isinstance"=some none)
  (OF:PySem.W.nsIn K mainGlobals "list"=some none)
  (OJ:PySem.W.nsIn K mainGlobals "str"=some none)
  (Oz:PySem.W.nsIn K mainGlobals "bool"=some none)
  (OK:PySem.W.nsIn K mainGlobals "tuple"=some none)
  (Oy:PySem.W.nsIn K mainGlobals "all"=some none)
  (OA:PySem.W.nsIn K mainGlobals "dict"=some none)
  (OB:PySem.W.nsIn K mainGlobals "enumerate"=some none)
  (OL:PySem.W.nsIn K mainGlobals "zip"=some none) :
  ∃fd:Ur,(∀(s:Um)(v:Uk),BindsTo s fd ⟨[v],[]⟩ [(S0,v)])/\∀base:Heap,K.In base->base.Ns mainGlobals mg->OQ l.prog w K mg base bQ 28 fa fd [S0] (qC K):=by
 have B:Bl mg:=⟨Ln X G OE,Ln X G OC,Ln X G OG,Ln X G OH,Ln X G OI,Ln X G OD,Ln X G OF,Ln X G OJ,Ln X G Oz,Ln X G OK,Ln X G Oy⟩;have B3:Ca mg:=⟨Ln X G OA,Ln X G OB⟩;have Z:uh K mg Nf Nb Nc NE NH ND NG:=⟨(Ld X G Os),Ox,(Ld X G N8),Ou,(Ld X G Oo),Ov,(Ld X G Og),(Ld X G Oj),(Ld X G Of),(Ld X G Oi)⟩;have CN:EW K mg Nd Nz NB:=⟨(Ld X G Op),Ow,(Ld X G Oc),(Ld X G Od)⟩;have CT2:BP K mg Na Nw NN:=⟨(Ld X G Oa),(Ld X G Oq),(Ld X G N7),Ot,B.len⟩;have ZX:ZE mg NC:=⟨(Ld X G Oe)⟩;have RC:Rc K cR:=⟨CR.cls,CR.na.1,CR.na.2.1,CR.na.2.2.1⟩;have TC:Tc K cT:=⟨CT.cls,CT.na.get⟩;have SC:Sc K cS:=⟨CS.cls,CS.na.1,CS.na.2.1,CS.na.2.2.1,CS.na.2.2.2.1,CS.na.2.2.2.2.1,CS.na.2.2.2.2.2.1,CS.na.2.2.2.2.2.2.1⟩;have WC:Wc K cW:=⟨CW.cls,CW.na.1,CW.na.2.1,CW.na.2.2.1⟩;have B4:Kf mg:=⟨Ln X G OL⟩;have ZH:Zh mg Ny:=⟨(Ld X G Ob)⟩;obtain⟨a14,fd,F⟩:=d73;have e:=hfa.symm.trans (Ld X G a14);cases e;obtain⟨oc,od,kV,doc,pm,an,MN,ct,UN,rfl,lk,VH⟩:=id F.ex;refine⟨PySem.W.fnOf "law" "law" (dv w6) (cN w6) (ak w6) .none kV doc pm an MN ct,fun s v=>.of_eq rfl,fun base _ _=>?_⟩;have f0 {x:Str} {st:Stmt} {f:Ul} {k:Nat} {ps:Us} {sp:Sp}:=Iu (P:=l.prog) (w:=w) (base:=base) (x:=x) (st:=st) (f:=f) (k:=k) (ps:=ps) (sp:=sp) X G;have WH:=f0 d1 (fun _ _ _ _ _ _=>by exact u1 fun _=>rfl) (fun fd F=>yL F B);have WI:=f0 d2 (fun _ _ _ _ _ _=>by exact u3 fun _ _ _=>rfl) (fun fd F=>xa F WH);have NM:=f0 d3 (fun _ _ _ _ _ _=>by exact u1 fun _=>rfl) (fun fd F=>BL F B CN);have NM2:=f0 d3 (fun _ _ _ _ _ _=>by exact u1 fun _=>rfl) (fun fd F=>yV F B CN);have NU:=f0 d0 (fun _ _ _ _ _ _=>by exact u1 fun _=>rfl) (fun fd F=>rJ F B (Ld X G N9) (Ld X G Oh));have RM:Rm l.prog w K mg base cR:=⟨RC,(dY (P:=l.prog) (w:=w) (mg:=mg) (base:=base) Nl MX (fun _ _ _ _ _ _=>by exact u1 fun _=>rfl) (fun fd F=>BH F RC)),(dY (P:=l.prog) (w:=w) (mg:=mg) (base:=base) Nu M9 (fun _ _ _ _ _ _=>by exact u1 fun _=>rfl) (fun fd F=>Hf F RC))⟩;have UG:sJ l.prog w K mg base cR:=⟨RM,(dY (P:=l.prog) (w:=w) (mg:=mg) (base:=base) Nn MZ (fun _ _ _ _ _ _=>by exact u2 fun _ _=>rfl) (fun fd F=>BI F RM)),(dY (P:=l.prog) (w:=w) (mg:=mg) (base:=base) Np M5 (fun _ _ _ _ _ _=>by exact u1 fun _=>rfl) (fun fd F=>rE F RM NM)),(dY (P:=l.prog) (w:=w) (mg:=mg) (base:=base) Nq M6 (fun _ _ _ _ _ _=>by exact u3 fun _ _ _=>rfl) (fun fd F=>mW F RM NU WI)),(dY (P:=l.prog) (w:=w) (mg:=mg) (base:=base) No M0 (fun _ _ _ _ _ _=>by exact u1 fun _=>rfl) (fun fd F=>tZ F RM B))⟩;obtain⟨fdR,INR,bIR⟩:=qD (P:=l.prog) (w:=w) (mg:=mg) (base:=base) IR (fun _ _ _ _ _ _=>by exact u2 fun _ _=>rfl) (fun fd F=>y9 F RC B (Ld X G Om));obtain⟨fdT,INT,bIT⟩:=qD (P:=l.prog) (w:=w) (mg:=mg) (base:=base) IT (fun _ _ _ _ _ _=>by exact u8 fun _ _ _ _ _ _ _ _=>rfl) (fun fd F=>zh F TC B);have BO:=f0 d6 (fun _ _ _ _ _ _=>by exact u4 fun _ _ _ _=>rfl) (fun fd F=>uc F UG);have NA:=f0 d7 (fun _ _ _ _ _ _=>by exact u4 fun _ _ _ _=>rfl) (fun fd F=>yN F UG B);have FL:=f0 d10 (fun _ _ _ _ _ _=>by exact u1 fun _=>rfl) (fun fd F=>yY F UG Z);have ER:=f0 d16 (fun _ _ _ _ _ _=>by exact u1 fun _=>rfl) (fun fd F=>BX F UG Z);have FS:=f0 d9 (fun _ _ _ _ _ _=>by exact u1 fun _=>rfl) (fun fd F=>xg F UG Z B FL);have TE:=f0 d13 (fun _ _ _ _ _ _=>by exact u1 fun _=>rfl) (fun fd F=>y6 F UG);have OP:=f0 d4 (fun _ _ _ _ _ _=>by exact u0 rfl) (fun fd F=>Fa F B (Ld X G On) dO rfl lo);have CE0:Fn l.prog w K mg base "read_cell" 3 [Sv,Sr,SV] (pi cR 0):=f0 d18 (fun _ _ _ _ _ _=>by exact u3 fun _ _ _=>rfl) (fun fd F=>dw);have TW0:Fn l.prog w K mg base "read_two" 3 [Sv,Sr,SV] (uf cR 0):=f0 d19 (fun _ _ _ _ _ _=>by exact u3 fun _ _ _=>rfl) (fun fd F=>dw);have EX0:=f0 d17 (fun _ _ _ _ _ _=>by exact u3 fun _ _ _=>rfl) (fun fd F=>kq F UG ZX NM2 CE0 TW0 zd);have CE1:=f0 d18 (fun _ _ _ _ _ _=>by exact u3 fun _ _ _=>rfl) (fun fd F=>lQ F UG EX0 zd);have TW1:=f0 d19 (fun _ _ _ _ _ _=>by exact u3 fun _ _ _=>rfl) (fun fd F=>pq F UG EX0 OP zd);have EX1:=f0 d17 (fun _ _ _ _ _ _=>by exact u3 fun _ _ _=>rfl) (fun fd F=>kq F UG ZX NM2 CE1 TW1 zd);have CE2:=f0 d18 (fun _ _ _ _ _ _=>by exact u3 fun _ _ _=>rfl) (fun fd F=>lQ F UG EX1 zd);have TW2:=f0 d19 (fun _ _ _ _ _ _=>by exact u3 fun _ _ _=>rfl) (fun fd F=>pq F UG EX1 OP zd);have EX2:=f0 d17 (fun _ _ _ _ _ _=>by exact u3 fun _ _ _=>rfl) (fun fd F=>kq F UG ZX NM2 CE2 TW2 zd);have CE3:=f0 d18 (fun _ _ _ _ _ _=>by exact u3 fun _ _ _=>rfl) (fun fd F=>lQ F UG EX2 zd);have TW3:=f0 d19 (fun _ _ _ _ _ _=>by exact u3 fun _ _ _=>rfl) (fun fd F=>pq F UG EX2 OP zd);have EX3:=f0 d17 (fun _ _ _ _ _ _=>by exact u3 fun _ _ _=>rfl) (fun fd F=>kq F UG ZX NM2 CE3 TW3 zd);have SR:=f0 d15 (fun _ _ _ _ _ _=>by exact u3 fun _ _ _=>rfl) (fun fd F=>BY F UG EX3 zd);have LF:=f0 d14 (fun _ _ _ _ _ _=>by exact u2 fun _ _=>rfl) (fun fd F=>y4 F UG Z B SR ER zd);have CH0:Fn l.prog w K mg base "read_choice" 12 [Sv,Sr,Tl] (jP cR 0):=f0 d12 (fun _ _ _ _ _ _=>by exact u3 fun _ _ _=>rfl) (fun fd F=>dw);have BD0:=f0 d11 (fun _ _ _ _ _ _=>by exact u3 fun _ _ _=>rfl) (fun fd F=>i6 F UG Z CH0 (de (k:=12) LF zd) zd);have CH1:=f0 d12 (fun _ _ _ _ _ _=>by exact u3 fun _ _ _=>rfl) (fun fd F=>iI F UG TE BD0 zd);have BD1:=f0 d11 (fun _ _ _ _ _ _=>by exact u3 fun _ _ _=>rfl) (fun fd F=>i6 F UG Z CH1 (de (k:=14) LF zd) zd);have CH2:=f0 d12 (fun _ _ _ _ _ _=>by exact u3 fun _ _ _=>rfl) (fun fd F=>iI F UG TE BD1 zd);have BD2:=f0 d11 (fun _ _ _ _ _ _=>by exact u3 fun _ _ _=>rfl) (fun fd F=>i6 F UG Z CH2 (de (k:=16) LF zd) zd);have CH3:=f0 d12 (fun _ _ _ _ _ _=>by exact u3 fun _ _ _=>rfl) (fun fd F=>iI F UG TE BD2 zd);have BD3:=f0 d11 (fun _ _ _ _ _ _=>by exact u3 fun _ _ _=>rfl) (fun fd F=>i6 F UG Z CH3 (de (k:=18) LF zd) zd);have KD:=f0 d8 (fun _ _ _ _ _ _=>by exact u2 fun _ _=>rfl) (fun fd F=>B6 F UG FS BD3 zd);have RF:=f0 d5 (fun _ _ _ _ _ _=>by exact u1 fun _=>rfl) (fun fd F=>B9 F UG Z B CR.mk_ (Ld X G CR.ns) INR bIR BO NA KD zd);have AN:=f0 d21 (fun _ _ _ _ _ _=>by exact u4 fun _ _ _ _=>rfl) (fun fd F=>uv F);have NK:=f0 d22 (fun _ _ _ _ _ _=>by exact u3 fun _ _ _=>rfl) (fun fd F=>pG F);have NW:=f0 d24 (fun _ _ _ _ _ _=>by exact u2 fun _ _=>rfl) (fun fd F=>Fb F B3 AN);have XO0:Fn l.prog w K mg base "expression_of" 1 [Sz,"e"] (pH 0):=f0 Z6 (fun _ _ _ _ _ _=>by exact u2 fun _ _=>rfl) (fun fd F=>dw);have XO1:=f0 Z6 (fun _ _ _ _ _ _=>by exact u2 fun _ _=>rfl) (fun fd F=>kA F NK XO0 zd);have XO2:=f0 Z6 (fun _ _ _ _ _ _=>by exact u2 fun _ _=>rfl) (fun fd F=>kA F NK XO1 zd);have XO3:=f0 Z6 (fun _ _ _ _ _ _=>by exact u2 fun _ _=>rfl) (fun fd F=>kA F NK XO2 zd);have XO4:=f0 Z6 (fun _ _ _ _ _ _=>by exact u2 fun _ _=>rfl) (fun fd F=>kA F NK XO3 zd);have SO:=f0 d27 (fun _ _ _ _ _ _=>by exact u2 fun _ _=>rfl) (fun fd F=>zf F NK XO4 zd);have TT:=f0 d26 (fun _ _ _ _ _ _=>by exact u2 fun _ _=>rfl) (fun fd F=>xj F NK);have EO:=f0 d28 (fun _ _ _ _ _ _=>by exact u2 fun _ _=>rfl) (fun fd F=>xk F NK);have DO0:Fn l.prog w K mg base "deed_of" 6 [Sz,Ui] (i7 3 0):=f0 Z7 (fun _ _ _ _ _ _=>by exact u2 fun _ _=>rfl) (fun fd F=>dw);have DO1:=f0 Z7 (fun _ _ _ _ _ _=>by exact u2 fun _ _=>rfl) (fun fd F=>ia F B TT EO (de (k:=6) SO zd) DO0 zd);have DO2:=f0 Z7 (fun _ _ _ _ _ _=>by exact u2 fun _ _=>rfl) (fun fd F=>ia F B TT EO (de (k:=7) SO zd) DO1 zd);have DO3:=f0 Z7 (fun _ _ _ _ _ _=>by exact u2 fun _ _=>rfl) (fun fd F=>ia F B TT EO (de (k:=8) SO zd) DO2 zd);have DO4:=f0 Z7 (fun _ _ _ _ _ _=>by exact u2 fun _ _=>rfl) (fun fd F=>ia F B TT EO (de (k:=9) SO zd) DO3 zd);have KN:=f0 d23 (fun _ _ _ _ _ _=>by exact u2 fun _ _=>rfl) (fun fd F=>Hq F B NW DO4 zd);have TF:=f0 d20 (fun _ _ _ _ _ _=>by exact u1 fun _=>rfl) (fun fd F=>Hs F B B3 CT.mk_ (Ld X G CT.ns) INT bIT AN NK KN zd);have SG:=f0 d31 (fun _ _ _ _ _ _=>by exact u2 fun _ _=>rfl) (fun fd F=>BS F CT2);have RN:=f0 d32 (fun _ _ _ _ _ _=>by exact u2 fun _ _=>rfl) (fun fd F=>E6 F CT2 SG);have TO:=f0 d30 (fun _ _ _ _ _ _=>by exact u1 fun _=>rfl) (fun fd F=>BU F CT2 SG RN);have RT:=f0 d33 (fun _ _ _ _ _ _=>by exact u1 fun _=>rfl) (fun fd F=>Hu F B (Ld X G Ol) TO RF TF zd zd);have KA:cD l.prog w K mg base cT "kind_at" 1 [Sm,SF] (gO cT):=(dY (P:=l.prog) (w:=w) (mg:=mg) (base:=base) Nk MV (fun _ _ _ _ _ _=>by exact u2 fun _ _=>rfl) (fun fd F=>xo F TC));have FO:cD l.prog w K mg base cT "fields_of" 2 [Sm,SF] (Ch cT):=(dY (P:=l.prog) (w:=w) (mg:=mg) (base:=base) Nh MS (fun _ _ _ _ _ _=>by exact u2 fun _ _=>rfl) (fun fd F=>Hv F TC KA));have DE:cD l.prog w K mg base cT To 2 [Sm,SF] (kB cT):=(dY (P:=l.prog) (w:=w) (mg:=mg) (base:=base) Ng MR (fun _ _ _ _ _ _=>by exact u2 fun _ _=>rfl) (fun fd F=>zu F TC KA));have WO1:=f0 d49 (fun _ _ _ _ _ _=>by exact u2 fun _ _=>rfl) (fun fd F=>C2 F WI);have IO1:=f0 d54 (fun _ _ _ _ _ _=>by exact u4 fun _ _ _ _=>rfl) (fun fd F=>uU F TC B WI WO1);have IR1:=f0 d53 (fun _ _ _ _ _ _=>by exact u3 fun _ _ _=>rfl) (fun fd F=>Az F TC B B4 FO IO1);have NR1:=f0 d58 (fun _ _ _ _ _ _=>by exact u2 fun _ _=>rfl) (fun fd F=>Ig F ZH IR1);have LTO:=f0 d57 (fun _ _ _ _ _ _=>by exact u3 fun _ _ _=>rfl) (fun fd F=>xE F B WI);have LOF:=f0 d56 (fun _ _ _ _ _ _=>by exact u3 fun _ _ _=>rfl) (fun fd F=>xF F B LTO);have HIW:=f0 d55 (fun _ _ _ _ _ _=>by exact u1 fun _=>rfl) (fun fd F=>C4 F TC);obtain⟨fdS,INS,bIS⟩:=qD (P:=l.prog) (w:=w) (mg:=mg) (base:=base) IS (fun _ _ _ _ _ _=>by exact u6 fun _ _ _ _ _ _=>rfl) (fun fd F=>HS F SC B);obtain⟨fdW,INW,bIW⟩:=qD (P:=l.prog) (w:=w) (mg:=mg) (base:=base) IW (fun _ _ _ _ _ _=>by exact u4 fun _ _ _ _=>rfl) (fun fd F=>AD F WC);obtain⟨aSO,fdSO,FSO⟩:=dSO;have Iq:=Ld X G aSO;have OKS:=HX (P:=l.prog) (w:=w) (base:=base) FSO TC B ZH CS.mk_ (Ld X G CS.ns) INS bIS WI LTO LOF HIW;have NT:cD l.prog w K mg base cW "number_told" 1 [Sm,SY] (iN cW):=(dY (P:=l.prog) (w:=w) (mg:=mg) (base:=base) Nr M7 (fun _ _ _ _ _ _=>by exact u2 fun _ _=>rfl) (fun fd F=>C7 F WC));have PWD:cD l.prog w K mg base cW "place_word" 2 [Sm,SY] (sB cT cS cW false):=(dY (P:=l.prog) (w:=w) (mg:=mg) (base:=base) Nt M8 (fun _ _ _ _ _ _=>by exact u2 fun _ _=>rfl) (fun fd F=>xG F WC SC NT));have MBT:cD l.prog w K mg base cW "mark_bit" 2 [Sm,SY] (sB cT cS cW true):=(dY (P:=l.prog) (w:=w) (mg:=mg) (base:=base) Nm MY (fun _ _ _ _ _ _=>by exact u2 fun _ _=>rfl) (fun fd F=>AF F WC SC NT));have GPL:cD l.prog w K mg base cW "give_place" 2 [Sm,SY,SE] (mP cT cS cW false):=(dY (P:=l.prog) (w:=w) (mg:=mg) (base:=base) Nj MU (fun _ _ _ _ _ _=>by exact u3 fun _ _ _=>rfl) (fun fd F=>xH F WC SC NT));have TRU:=f0 d50 (fun _ _ _ _ _ _=>by exact u1 fun _=>rfl) (fun fd F=>AH F);have TOP:=f0 d51 (fun _ _ _ _ _ _=>by exact u2 fun _ _=>rfl) (fun fd F=>F7 F);have GMK:cD l.prog w K mg base cW "give_mark" 2 [Sm,SY,SE] (mP cT cS cW true):=(dY (P:=l.prog) (w:=w) (mg:=mg) (base:=base) Ni MT (fun _ _ _ _ _ _=>by exact u3 fun _ _ _=>rfl) (fun fd F=>xI F WC SC NT TRU));have HOL:=f0 d52 (fun _ _ _ _ _ _=>by exact u2 fun _ _=>rfl) (fun fd F=>AL F TC WC PWD MBT TOP);have LHO1:=f0 d62 (fun _ _ _ _ _ _=>by exact u2 fun _ _=>rfl) (fun fd F=>F8 F B TC WC PWD GPL GMK);have ILE:=f0 d61 (fun _ _ _ _ _ _=>by exact u2 fun _ _=>rfl) (fun fd F=>Ga F B LHO1 HOL);have TL0:Fn l.prog w K mg base "tests_to_leaves" 2 [To] (wB 0):=f0 Z0 (fun _ _ _ _ _ _=>by exact u1 fun _=>rfl) (fun fd F=>dw);have UC:=f0 Z0 (fun _ _ _ _ _ _=>by exact u1 fun _=>rfl) (fun fd F=>qr F TL0);have TL2:=f0 Z0 (fun _ _ _ _ _ _=>by exact u1 fun _=>rfl) (fun fd F=>qr F UC);have Y4:=f0 Z0 (fun _ _ _ _ _ _=>by exact u1 fun _=>rfl) (fun fd F=>qr F TL2);have VJ:=f0 Z0 (fun _ _ _ _ _ _=>by exact u1 fun _=>rfl) (fun fd F=>qr F Y4);have WAY:=f0 d59 (fun _ _ _ _ _ _=>by exact u2 fun _ _=>rfl) (fun fd F=>Da F B B3 TC WC SC NR1 VJ DE FSO Iq OKS ILE CW.mk_ (Ld X G CW.ns) INW bIW zd);have CL:=f0 d34 (fun _ _ _ _ _ _=>by exact u2 fun _ _=>rfl) (fun fd F=>BF F B);have ST:=f0 d35 (fun _ _ _ _ _ _=>by exact u1 fun _=>rfl) (fun fd F=>w8 F B);have Vw:=f0 d36 (fun _ _ _ _ _ _=>by exact u2 fun _ _=>rfl) (fun fd F=>BG F);have LN:=f0 d37 (fun _ _ _ _ _ _=>by exact u2 fun _ _=>rfl) (fun fd F=>xq F B Vw);have SL:=f0 d38 (fun _ _ _ _ _ _=>by exact u4 fun _ _ _ _=>rfl) (fun fd F=>Cm F B B3 Vw);have AT:=f0 d39 (fun _ _ _ _ _ _=>by exact u3 fun _ _ _=>rfl) (fun fd F=>zI F B B3 Vw SL);have LE0:Fn l.prog w K mg base "_law_expr" 3 [Sj,Si,Sk,SK] (kD 0):=f0 Z5 (fun _ _ _ _ _ _=>by exact u4 fun _ _ _ _=>rfl) (fun fd F=>dw);have LE1:=f0 Z5 (fun _ _ _ _ _ _=>by exact u4 fun _ _ _ _=>rfl) (fun fd F=>jd F Vw AT LE0 zd);have LE2:=f0 Z5 (fun _ _ _ _ _ _=>by exact u4 fun _ _ _ _=>rfl) (fun fd F=>jd F Vw AT LE1 zd);have LE3:=f0 Z5 (fun _ _ _ _ _ _=>by exact u4 fun _ _ _ _=>rfl) (fun fd F=>jd F Vw AT LE2 zd);have LE4:=f0 Z5 (fun _ _ _ _ _ _=>by exact u4 fun _ _ _ _=>rfl) (fun fd F=>jd F Vw AT LE3 zd);have LSE:=f0 d41 (fun _ _ _ _ _ _=>by exact u4 fun _ _ _ _=>rfl) (fun fd F=>zN F B Vw SL LE4 zd);have LEN:=f0 d42 (fun _ _ _ _ _ _=>by exact u2 fun _ _=>rfl) (fun fd F=>Ct F B B3 Vw);have LD0:Fn l.prog w K mg base "_law_deed" 8 [Sj,Si,Sk,S9,SK] (kF 4 0):=f0 Z4 (fun _ _ _ _ _ _=>by exact u5 fun _ _ _ _ _=>rfl) (fun fd F=>dw);have LD1:=f0 Z4 (fun _ _ _ _ _ _=>by exact u5 fun _ _ _ _ _=>rfl) (fun fd F=>je F Vw SL (de (k:=8) LSE zd) LEN LD0 zd);have LD2:=f0 Z4 (fun _ _ _ _ _ _=>by exact u5 fun _ _ _ _ _=>rfl) (fun fd F=>je F Vw SL (de (k:=9) LSE zd) LEN LD1 zd);have LD3:=f0 Z4 (fun _ _ _ _ _ _=>by exact u5 fun _ _ _ _ _=>rfl) (fun fd F=>je F Vw SL (de (k:=10) LSE zd) LEN LD2 zd);have LD4:=f0 Z4 (fun _ _ _ _ _ _=>by exact u5 fun _ _ _ _ _=>rfl) (fun fd F=>je F Vw SL (de (k:=11) LSE zd) LEN LD3 zd);have LT:=f0 d44 (fun _ _ _ _ _ _=>by exact u2 fun _ _=>rfl) (fun fd F=>Cz F B Vw LN LD4 zd);have XQ:=f0 d45 (fun _ _ _ _ _ _=>by exact u3 fun _ _ _=>rfl) (fun fd F=>FA F);have ET0:Fn l.prog w K mg base "_law_expr_text" 1 [Ud,Si,Sk] (wm 0):=f0 Z2 (fun _ _ _ _ _ _=>by exact u3 fun _ _ _=>rfl) (fun fd F=>dw);have ET1:=f0 Z2 (fun _ _ _ _ _ _=>by exact u3 fun _ _ _=>rfl) (fun fd F=>pV F B XQ ET0 zd);have ET2:=f0 Z2 (fun _ _ _ _ _ _=>by exact u3 fun _ _ _=>rfl) (fun fd F=>pV F B XQ ET1 zd);have ET3:=f0 Z2 (fun _ _ _ _ _ _=>by exact u3 fun _ _ _=>rfl) (fun fd F=>pV F B XQ ET2 zd);have ET4:=f0 Z2 (fun _ _ _ _ _ _=>by exact u3 fun _ _ _=>rfl) (fun fd F=>pV F B XQ ET3 zd);have DX0:Fn l.prog w K mg base "_law_deed_text" 5 [Sq,Si,Sk] (wo 0):=f0 Z1 (fun _ _ _ _ _ _=>by exact u3 fun _ _ _=>rfl) (fun fd F=>dw);have DX1:=f0 Z1 (fun _ _ _ _ _ _=>by exact u3 fun _ _ _=>rfl) (fun fd F=>pW F B XQ (de (k:=5) ET4 zd) DX0 zd);have DX2:=f0 Z1 (fun _ _ _ _ _ _=>by exact u3 fun _ _ _=>rfl) (fun fd F=>pW F B XQ (de (k:=6) ET4 zd) DX1 zd);have DX3:=f0 Z1 (fun _ _ _ _ _ _=>by exact u3 fun _ _ _=>rfl) (fun fd F=>pW F B XQ (de (k:=7) ET4 zd) DX2 zd);have DX4:=f0 Z1 (fun _ _ _ _ _ _=>by exact u3 fun _ _ _=>rfl) (fun fd F=>pW F B XQ (de (k:=8) ET4 zd) DX3 zd);have TX:=f0 d48 (fun _ _ _ _ _ _=>by exact u1 fun _=>rfl) (fun fd F=>Av F B B3 DX4 zd);have LNU:=f0 d63 (fun _ _ _ _ _ _=>by exact u2 fun _ _=>rfl) (fun fd F=>Dc F);have LHD:=f0 d64 (fun _ _ _ _ _ _=>by exact u4 fun _ _ _ _=>rfl) (fun fd F=>Ge F B LNU);have LT0:Fn l.prog w K mg base "_law_tests" 1 [Sq,Tj] (sC 0):=f0 Y3 (fun _ _ _ _ _ _=>by exact u2 fun _ _=>rfl) (fun fd F=>dw);have LT1:=f0 Y3 (fun _ _ _ _ _ _=>by exact u2 fun _ _=>rfl) (fun fd F=>mQ F LT0);have LT2:=f0 Y3 (fun _ _ _ _ _ _=>by exact u2 fun _ _=>rfl) (fun fd F=>mQ F LT1);have LT3:=f0 Y3 (fun _ _ _ _ _ _=>by exact u2 fun _ _=>rfl) (fun fd F=>mQ F LT2);have LT4:=f0 Y3 (fun _ _ _ _ _ _=>by exact u2 fun _ _=>rfl) (fun fd F=>mQ F LT3);have Z9:=f0 Y3 (fun _ _ _ _ _ _=>by exact u2 fun _ _=>rfl) (fun fd F=>mQ F LT4);have LF0:Fn l.prog w K mg base "_law_leaf" 6 [Sq,Th,Si,SU,Sl] (sD 0):=f0 ZY (fun _ _ _ _ _ _=>by exact u5 fun _ _ _ _ _=>rfl) (fun fd F=>dw);have LF1:=f0 ZY (fun _ _ _ _ _ _=>by exact u5 fun _ _ _ _ _=>rfl) (fun fd F=>qw F B LHD Z9 LF0 zd zd);have LF2:=f0 ZY (fun _ _ _ _ _ _=>by exact u5 fun _ _ _ _ _=>rfl) (fun fd F=>qw F B LHD Z9 LF1 zd zd);have LF3:=f0 ZY (fun _ _ _ _ _ _=>by exact u5 fun _ _ _ _ _=>rfl) (fun fd F=>qw F B LHD Z9 LF2 zd zd);have LF4:=f0 ZY (fun _ _ _ _ _ _=>by exact u5 fun _ _ _ _ _=>rfl) (fun fd F=>qw F B LHD Z9 LF3 zd zd);have LWO:=f0 d68 (fun _ _ _ _ _ _=>by exact u3 fun _ _ _=>rfl) (fun fd F=>Gf F B LNU);have LAL:=f0 d69 (fun _ _ _ _ _ _=>by exact u2 fun _ _=>rfl) (fun fd F=>Gg F B);have LSS:=f0 d70 (fun _ _ _ _ _ _=>by exact u1 fun _=>rfl) (fun fd F=>Gh F B LAL);have LDU:=f0 d71 (fun _ _ _ _ _ _=>by exact u3 fun _ _ _=>rfl) (fun fd F=>Gj F B B3 LSS LF4 Z9 LWO zd zd);have LRR:=f0 d72 (fun _ _ _ _ _ _=>by exact u4 fun _ _ _ _=>rfl) (fun fd F=>Ip F B LDU (de (k:=11) WAY zd) (de (k:=11) LF4 zd));have LOP:=f0 d65 (fun _ _ _ _ _ _=>by exact u4 fun _ _ _ _=>rfl) (fun fd F=>Gn F B Vw);exact A9 F B CL ST Vw (de (k:=27) LT zd) (de (k:=27) TX zd) (de (k:=27) RT zd) LOP (de (k:=27) LRR zd) zd
end L3
namespace PySem.W.Fast
def t:=trivial
def tw8298697524641380410:=t
def tw522802248079879281:=t
def tw620756773994576382:=t
def tw16131792240877625046:=t
def tw5067119139311906296:=t
def tw9757924474563499032:=t
def tw6468835851903440657:=t
def tw12140504238969674892:=t
def tw15602678850449046960:=t
def tw4387370134993775822:=t
def tw3893001331585141559:=t
def tw12928491774733425656:=t
def tw11284647245482184196:=t
def tw5415827343962888466:=t
def tw13257090106236756943:=t
def tw15285172089287128429:=t
def tw3206066412121653421:=t
def tw2944656799945460432:=t
def tw12553040508103990773:=t
def tw12709729250004232788:=t
def tw13108572301827761139:=t
def tw995520662521243558:=t
def tw14819689612625067952:=t
def tw16395492482495170335:=t
def tw2854637170754694339:=t
def tw12542096714440507132:=t
def tw3747956928141535274:=t
def tw4560826084776746256:=t
def tw3667208513307703473:=t
def tw8585491255014944695:=t
def tw3182668519010960842:=t
def tw10361668648578464179:=t
def tw10805888281458758918:=t
def tw3517753123114518142:=t
def tw8371052393320894663:=t
def tw16285398502384804320:=t
def tw12066558198232188930:=t
def tw5974076913226800742:=t
def tw9334433764069299575:=t
def tw14154268786883173768:=t
def tw7166146611043032204:=t
def tw11499528753070734834:=t
def tw11060663659213244271:=t
def tw15471865927624428425:=t
def tw7288847034656137931:=t
def tw15580357706639185192:=t
def tw967794823883753521:=t
def tw16514425461533786339:=t
def tw11221880030217608390:=t
def tw12112859642152238670:=t
def tw6706379122699156147:=t
def tw1346147276405330173:=t
def tw11002693907946759346:=t
def tw8832491539695728195:=t
def tw8708523758561689691:=t
def tw10071193242438017719:=t
def tw11579065427771428584:=t
def tw5381439912136366718:=t
def tw16108642288241429293:=t
def tw8509501096645388073:=t
def tw10366055598664622317:=t
def tw3160478396147063295:=t
def tw7401568599088491092:=t
def tw9960376454543199858:=t
def tw8684144872539505759:=t
def tw5523310502317586684:=t
def tw12792932214669458253:=t
def tw15887876555989565343:=t
def tw8225506103617348384:=t
def tw17023440983316485827:=t
def tw5593495270741328326:=t
def tw7363935406229219274:=t
def tw8084124004347211435:=t
def tw537867522352938737:=t
def tw4589712323393445691:=t
def tw13144852142586868470:=t
def tw2535549617570909128:=t
def tw4989725912074677623:=t
def tw12621972809643270644:=t
def tw14878118349260772752:=t
def tw15615180090620072125:=t
def tw6177422731500978412:=t
def tw9988131713515147407:=t
def tw15902968545449278039:=t
def tw8385596410237606270:=t
def tw10246852214983415020:=t
def tw3879983296482254676:=t
def tw16002121500465760456:=t
def tw17721786129033319624:=t
def tw17683922355787921329:=t
def tw12200693099592384422:=t
def tw11338834904738619471:=t
def tw1587229761819815013:=t
def tw18280275665956047246:=t
def tw7820387155982332104:=t
def tw4188318895617343157:=t
def tw7308093012621478078:=t
def tw11438344578430732719:=t
def tw4552855101096643285:=t
def tw16013304597256698794:=t
def tw13038304467909777521:=t
def tw18351193408300081760:=t
def tw4814089176345243739:=t
def tw9558960741600001777:=t
def tw7854430168100792166:=t
def tw3911177403857974782:=t
def tw11415687587693112555:=t
def tw12384673397703525101:=t
def tw604773230838953641:=t
def tw16094527541217498930:=t
def tw9293535960438333196:=t
def tw12560215989992068325:=t
def tw10417348169708768720:=t
def tw8232069959101508577:=t
def tw14089270077306659602:=t
def tw5452909723515678385:=t
def tw18095432065055875995:=t
def tw123360625976890896:=t
def tw6981486268799297514:=t
def tw13455775126305952913:=t
def tw9656003381004931432:=t
def tw13130965661849747510:=t
def tw5660693198041829131:=t
def tw5383741015461662716:=t
def tw1537996203438134219:=t
def tw7312058048221159812:=t
def tw860271555200877322:=t
def tw9735341420808016556:=t
def tw8450353028306500339:=t
def tw14576259848667045230:=t
def tw2173637899794062811:=t
def tw12271639729032732539:=t
def tw2054604269913964547:=t
def tw5870822129293332528:=t
def tw15061757589990648173:=t
def tw12920479441978078372:=t
def tw6630600155560133522:=t
def tw6866205489732675691:=t
def tw15380413005687137698:=t
def tw4712009174394735474:=t
def tw14259685595903398409:=t
def tw8693632070251777350:=t
def tw16653152303125124818:=t
def tw7584560243718133991:=t
def tw3735543941604039834:=t
def tw11673077521949741031:=t
def tw8448174590579703561:=t
def tw6228556315000711597:=t
def tw11996406657600065096:=t
def tw13976126245360298802:=t
def tw1632559554923362171:=t
def tw18173950759722968082:=t
def tw1800311320482672625:=t
def tw15747057138704364799:=t
def tw14448272332050789298:=t
def tw15674295444553061630:=t
def tw12496389816422406595:=t
def tw1956088553508876396:=t
def tw13047538559609297767:=t
def tw16217306645563438233:=t
def tw6070823721548558917:=t
def tw5425897348153789553:=t
def tw10051181845608111096:=t
def tw374969641941436925:=t
def tw4182567788238339231:=t
def tw16366003816680745786:=t
def tw5966608051417604876:=t
def tw11530229203695173990:=t
def tw5806019358958272636:=t
def tw695731475650618557:=t
def tw12067923272409063188:=t
def tw12227619206240352877:=t
def tw3784667420183793084:=t
def tw16289365767187538285:=t
def tw6536041936202691664:=t
def tw7156969511969654860:=t
def tw14302378012897049315:=t
def tw2908196813589719711:=t
def tw796088259282266231:=t
def tw17469759449618741538:=t
def tw10874652803261189713:=t
def tw6514231162009210764:=t
def tw11310185537694810219:=t
def tw4465411809598033463:=t
def tw11973332033643612344:=t
def tw9540226845258864212:=t
def tw18417661065450531232:=t
def tw8957047974059769562:=t
def tw18189249944295001565:=t
def tw15663185819915407090:=t
def tw14940907458716586912:=t
def tw11075313180063168681:=t
def tw8883922832258496688:=t
def tw5957778766504005814:=t
def tw13203449377507806079:=t
def tw4072244646959215193:=t
def tw14242108461939248655:=t
def tw12641513806133765803:=t
def tw15641458999498301347:=t
def tw1635718562022539600:=t
def tw8774430875819387228:=t
def tw6895206190897298483:=t
def tw17766319457623538401:=t
def tw17038799505073537244:=t
def tw12309574293311654580:=t
def tw11850001603963397808:=t
def tw14410728700327103570:=t
def tw15947277458125021402:=t
def tw9728034772530219498:=t
def tw9156803921439132512:=t
def tw3776409601720892423:=t
def tw7410757205420166291:=t
def tw16597548486196702416:=t
def tw1602648266895480538:=t
def tw8031861622103580932:=t
def tw8242586257340510672:=t
def tw15210291269704353275:=t
def tw4046690302221167630:=t
def tw10020624683265373291:=t
def tw7373157055021942302:=t
def tw3282580947588354420:=t
def tw15254706144238349564:=t
def tw12043996554564715080:=t
def tw12207046592819254236:=t
def tw2975772304665469116:=t
def tw6454869797522161661:=t
def tw2055630854214897150:=t
def tw8404230261537804017:=t
def tw3598255782407626048:=t
def tw1788044327046426815:=t
def tw11181032663834950590:=t
def tw7332917359083290699:=t
def tw8097314930043308542:=t
def tw10517345174668371117:=t
def tw4434766190628743792:=t
def tw752435855799673689:=t
def tw542333322213692525:=t
def tw14789614718183253729:=t
def tw15320034342118155324:=t
def tw13091356129092717480:=t
def tw9270326077334981142:=t
def tw10744787622021047444:=t
def tw3331433335865272712:=t
def tw7671233422548826271:=t
def tw13298999248896343882:=t
def tw2612238821589024238:=t
def tw12912390194729779848:=t
def tw1433779668728012111:=t
def tw11338633349639330819:=t
def tw4173454926946281652:=t
def tw1143616888834413943:=t
def tw10595107447756400259:=t
def tw627643959116343930:=t
def tw10127929580809010244:=t
def tw2023565324778025242:=t
def tw11069657807491823805:=t
def tw8112629976988396221:=t
def tw12297595857607220501:=t
def tw7576709724252417830:=t
def tw18430827421761067660:=t
def tw9011080927086648234:=t
def tw28914759646506311:=t
def tw15777517693871197547:=t
def tw13285678175391890506:=t
def tw13691151465702877703:=t
def tw8799492626540650327:=t
def tw2463460142791976386:=t
def tw9860019486135963488:=t
def tw17817997461945880326:=t
def tw8395280433101511517:=t
def tw6068299711987027875:=t
def tw11669697813958389463:=t
def tw18064884019172086341:=t
def tw5301896346827803385:=t
def tw2827003883006563556:=t
def tw226515826306903083:=t
def tw9467056728857797996:=t
def tw9111182817934572554:=t
def tw13172869307844866113:=t
def tw6418600044360693793:=t
def tw4310242419719347913:=t
def tw11309162104924390455:=t
def tw6398536226464558143:=t
def tw15158232955519387969:=t
def tw1777134180908248815:=t
def tw5788591846850171013:=t
def tw9210992170262839234:=t
def tw2632149529258305074:=t
def tw15150298360241877309:=t
def tw17954429995082683223:=t
def tw11892138607045011791:=t
def tw10568273430457754727:=t
def tw14369839048515454087:=t
def tw3667939131195387331:=t
def tw15654994376041124040:=t
def tw10263655128275939132:=t
def tw14424413383651645256:=t
def tw5453695133906811110:=t
def tw13159557091875980353:=t
def tw4154158277424225939:=t
def tw5952210333446826884:=t
def tw10364043893712618456:=t
def tw8015855665533469427:=t
def tw11028394563680270753:=t
def tw3419376974489534213:=t
def tw15989931650716712977:=t
def tw4918074489136847681:=t
def tw5317857420999110274:=t
def tw17917817907594034999:=t
def tw17918499176634020587:=t
def tw6087284567479855909:=t
def tw10462114498351310554:=t
def tw17906876504034536564:=t
def tw11217027419435869488:=t
def tw9310530515233360778:=t
def tw14144019491057358575:=t
def tw10293729322934026165:=t
def tw15675381153328472685:=t
def tw15532036928437886513:=t
def tw13638553336151234395:=t
def tw1313228056262863914:=t
def tw12488089912153505871:=t
def tw11526769563177763068:=t
def tw11316435758938764910:=t
def tw16637365789372229606:=t
def tw702572925807928805:=t
def tw8695995216496456068:=t
def tw9586642531550870475:=t
def tw16507897064297071660:=t
def tw5988500572405852063:=t
def tw10956437621817551572:=t
def tw2863761149257222714:=t
def tw12040540063775027379:=t
def tw17318689302212258436:=t
def tw14054446880198566069:=t
def tw7574967094388145205:=t
def tw10895835887621987082:=t
def tw6832629049265560744:=t
def tw15859007461044802214:=t
def tw7085647906571990530:=t
def tw15447619222730929602:=t
def tw17998182539041875552:=t
def tw6445008952496764043:=t
def tw13109135032798688038:=t
def tw8136496093289550242:=t
def tw3248454320214419391:=t
def tw5350703844846473527:=t
def tw11493406306118876248:=t
def tw10626563103580970928:=t
def tw8538860520121538177:=t
def tw11772088165090496945:=t
def tw6621386791848122752:=t
def tw5745678496329255957:=t
def tw15751752832143739716:=t
def tw12609800377774036570:=t
def tw4409545216981181663:=t
def tw1972134360397831558:=t
def tw13741744953759024805:=t
def tw1072231777053379313:=t
def tw5865888184804538318:=t
def tw7359442068519039545:=t
def tw14526260986400356776:=t
def tw6445488006659287894:=t
def tw6929711157061258280:=t
def tw844244224975182501:=t
def tw7143671032126691303:=t
def tw14173510996123801789:=t
def tw18289659780051942596:=t
def tw517546189844127016:=t
def tw6065393542272566170:=t
def tw2904599057382480083:=t
def tw15010053150986126203:=t
def tw5260959772449418386:=t
def tw7742810565329076702:=t
def tw2196730463427519797:=t
def tw17889631982838489372:=t
def tw12485942642396885921:=t
def tw351792730149447898:=t
def tw2268784011754722772:=t
def tw2039215011874871455:=t
def tw17395650467369548247:=t
def tw1175195184343261076:=t
def tw7625707783360207944:=t
def tw8383465524847508802:=t
def tw13748687301755933698:=t
def tw11073910823909117189:=t
def tw18059731933231789573:=t
def tw8593533184838324848:=t
def tw5786294850522384099:=t
def tw599792577955456035:=t
def tw13220974637144614625:=t
def tw12210690827735819736:=t
def tw2176231512161718958:=t
def tw5713283643601951978:=t
def tw13640328023696141596:=t
def tw9119484327124249656:=t
def tw17505701360342550075:=t
def tw2813773235909363185:=t
def tw1404200153744048906:=t
def tw836891471052120042:=t
def tw1264341318186583960:=t
def tw1055687632267003146:=t
def tw16022662947888772815:=t
def tw14988736260415053905:=t
def tw14906546720525942668:=t
def tw14686774946608578760:=t
def tw1301524517317006731:=t
def tw1822139684306840028:=t
def tw4369044404085087475:=t
def tw7357516330982617880:=t
def tw12723554482512130345:=t
def tw7405239041065323418:=t
def tw2104456984332507895:=t
def tw16842327665956036242:=t
def tw14598735140169833435:=t
def tw14034632439256199766:=t
def tw3722177552248372178:=t
def tw5920003690774158641:=t
def tw15254725906966928197:=t
def tw8863331951079028125:=t
def tw4014215326908077276:=t
def tw2876448447906949871:=t
def tw10333694659396660078:=t
def tw7509179002517714832:=t
def tw5048575899322497437:=t
def tw4161544410173555189:=t
def tw3033795745003457939:=t
def tw1676465370040601495:=t
def tw12100934976476028907:=t
def tw7716309009695470582:=t
def tw3754153718101180346:=t
def tw2437878879533747652:=t
def tw14809070442443679225:=t
def tw6345637446809792759:=t
def tw6309508108520296246:=t
def tw2998777817399995898:=t
def tw2099785639747364774:=t
def tw15735738156851612482:=t
def tw18436040849050719694:=t
def tw13950753616193752769:=t
def tw8917189841528149890:=t
def tw8189079656052125239:=t
def tw4228239224592290033:=t
def tw278169349298591002:=t
def tw1890413787369789068:=t
def tw13655936420227626389:=t
def tw12804091833941781667:=t
def tw6890625398972914693:=t
def tw7382488059200452862:=t
def tw5680826365078652238:=t
def tw178089166146174896:=t
def tw17514969608750679476:=t
def tw15647156879250272689:=t
def tw14220778491594654383:=t
def tw13994848746556194187:=t
def tw10976400458099499509:=t
def tw5987508847893918334:=t
def tw5460009770829779558:=t
def tw4307080599076445036:=t
def tw2414589721330588331:=t
def tw15305775402554251178:=t
def tw15163389191113732609:=t
def tw13599422257783064917:=t
def tw6962470474925399918:=t
def tw2442002864216701623:=t
def tw8943785752075032391:=t
def tw15106631631009088994:=t
def tw7938220782918790108:=t
def tw12294385319266224521:=t
def tw9162901070295992443:=t
def tw10782320414544593005:=t
def tw13080722717857142187:=t
def tw10399207737702365173:=t
def tw9343281232149654986:=t
def tw6809356309373610268:=t
def tw18204889420236305432:=t
def tw17241432215829477932:=t
def tw6044404983281630421:=t
def tw6025270170418601889:=t
def tw4199318605442604723:=t
def tw372169373760939076:=t
def tw3107489964581284099:=t
def tw2310119582997768792:=t
def tw14470452123220687671:=t
def tw1508528393873402311:=t
def tw1467714756483176758:=t
def tw12006382592125056582:=t
def tw7499671174322281669:=t
def tw297301797793979840:=t
def tw17181140795071808834:=t
def tw12126346046548139203:=t
def tw17700236914966520007:=t
def tw17184386680699095854:=t
def tw16997835296863791122:=t
def tw16864484226790047511:=t
def tw15447110309236966632:=t
def tw5344413864849593399:=t
def tw4004152678894404463:=t
def tw2904428531312157152:=t
def tw17412205489053168337:=t
def tw12463111173328684453:=t
def tw9280838114465299086:=t
def tw14265334218805691175:=t
def tw10376935546376248807:=t
def tw5050016361518201910:=t
def tw16778655150206964381:=t
def tw9815329263129355918:=t
def tw15332301018310751392:=t
def tw3502105668065566668:=t
def tw13362161608294159257:=t
def tw604196326994840864:=t
def tw597155830054664173:=t
def tw3380072920832961288:=t
def tw7287359091020819588:=t
def tw10349675256020159204:=t
def tw7930008995326880015:=t
def tw3336430545271685669:=t
def tw2306886658814829928:=t
def tw9994846793605576668:=t
def tw2113898493290670893:=t
def tw15880630669624948387:=t
def tw3468200599828010944:=t
def tw15560094132744949427:=t
def tw2684696870245371058:=t
def tw14695528676815674449:=t
def tw17171799322532961998:=t
def tw1256968246449099393:=t
def tw11128814016273170451:=t
def tw11894819139479635849:=t
def tw6743580251986276355:=t
def tw2247022558355257869:=t
def tw7778431505475116045:=t
def tw6354461509665546044:=t
def tw13278049375534064398:=t
def tw8817019107796660569:=t
def tw8793644681969799972:=t
def tw477883686429418684:=t
def tw4686246048715313569:=t
def tw4345517936930920574:=t
def tw300964915060588961:=t
def tw17433031051376741155:=t
def tw15614778924740727588:=t
def tw13009620893587093196:=t
def tw2165065381076924956:=t
def tw13182354620612402147:=t
def tw13209219821328904991:=t
def tw5574048517020817331:=t
def tw15215807729265413404:=t
def tw7275540396837479427:=t
def tw1757783428015532505:=t
def tw10192034079862157106:=t
def tw750563717977904343:=t
def tw418673081045630378:=t
def tw9667153419586493652:=t
def tw9182795399494555289:=t
def tw8002002602174396066:=t
def tw6779378364003367666:=t
def tw4972146216829141343:=t
def tw405149809588718126:=t
def tw10912056575595571354:=t
def tw8822934244132683119:=t
def tw6212200964891894437:=t
def tw3230713986675417874:=t
def tw16501886876987837218:=t
def tw14048702996129460530:=t
def tw13328948740130520229:=t
def tw12622712903103743099:=t
def tw11424214671354448962:=t
def tw18175182668425741511:=t
def tw12087677245218363918:=t
def tw11118601311472544350:=t
def tw14516086067739331169:=t
def tw1718840112650076282:=t
def tw17177820327925206793:=t
def tw4863171876554953219:=t
def tw4001252651243536136:=t
def tw16871532840152192673:=t
def tw15058695743775299558:=t
def tw10502909744191421634:=t
def tw5259443736972526004:=t
def tw5038554180895565780:=t
def tw7569019614904589093:=t
def tw6936534214215629924:=t
def tw15955848004032209004:=t
def tw15180436145304388241:=t
def tw11569162905373984295:=t
def tw965215277083563103:=t
def tw3520189261825231389:=t
def tw15958303835869517309:=t
def tw15443183297048099036:=t
def tw10316804892326560211:=t
def tw4664971440994350686:=t
def tw18331927260400513472:=t
def tw16843717374968009449:=t
def tw16547635399002102384:=t
def tw6376176631594388067:=t
def tw8986665422360138765:=t
def tw15370987305313184019:=t
def tw14321336758623971496:=t
def tw16407046201427470907:=t
def tw13263758328693730838:=t
def tw8165263307619667850:=t
def tw9909806429636567665:=t
def tw513599735412554460:=t
def tw1554612276266341947:=t
def tw707266623194543410:=t
def tw290852382435568305:=t
def tw1692242749183061935:=t
def tw12643739988569570198:=t
def tw18279035891478087139:=t
def tw9735859756201473328:=t
def tw8173210135122521973:=t
def tw6402105663264817428:=t
def tw4893302572368964416:=t
def tw3043201256545368971:=t
def tw17626899008317158903:=t
def tw15779496624588037732:=t
def tw13461861195169903055:=t
def tw13029001632278854737:=t
def tw12830022456929456093:=t
def tw1155428759635847841:=t
def tw11182635262389378801:=t
def tw239875367643682088:=t
def tw4052789308754164624:=t
def tw1961755729327344541:=t
def tw9051287791577914035:=t
def tw8267732863442027986:=t
def tw751623159251080949:=t
def tw6764377564920431879:=t
def tw6133054633098757677:=t
def tw18437011459585921377:=t
def tw18428190004636540290:=t
def tw15434619291018410823:=t
def tw14085752881623499996:=t
def tw13383834525982694353:=t
def tw13316980661019139385:=t
def tw11452594572256595347:=t
def tw8391611363329669375:=t
def tw6955524564430648935:=t
def tw6786731989787144997:=t
def tw4281871050871030765:=t
def tw3067003776613081315:=t
def tw17753713348808281638:=t
def tw16369202521837735730:=t
def tw15748008207800089921:=t
def tw14537711008783735381:=t
def tw14431677167194558757:=t
def tw11805242211842887735:=t
def tw11617846452604161469:=t
def tw10777738000638463111:=t
def tw2224733286245711366:=t
def tw14350332033533480561:=t
def tw8669541704538599870:=t
def tw7045463020458637544:=t
def tw2236159232360470645:=t
def tw18395345887902123853:=t
def tw15310481007106892662:=t
def tw10243850718939405346:=t
def tw10112101053725769974:=t
def tw9986728466577863481:=t
def tw9182701221529601441:=t
def tw9090642071060707091:=t
def tw8866701913863048687:=t
def tw8540648228676866709:=t
def tw8467531579230401959:=t
def tw4670552181293105902:=t
def tw2677451993432473370:=t
def tw17587261976432170154:=t
def tw15275865600217776397:=t
def tw12198183410722736442:=t
def tw12194945777814363948:=t
def tw9844626336644738049:=t
def tw9813425599005241012:=t
def tw9708507619602545736:=t
def tw9575275045234020693:=t
def tw9557744998831301186:=t
def tw9401157254306177102:=t
def tw9397875339707939181:=t
def tw9388849956958692547:=t
def tw9286783492076730691:=t
def tw9265018347479030758:=t
def tw9237515659348015362:=t
def tw9201359526306541391:=t
def tw9148051026288129181:=t
def tw9144873493321110913:=t
def tw9061491830041453224:=t
def tw8959110193696294725:=t
def tw8868055362703042359:=t
def tw8843586336997466201:=t
def tw879102793879313817:=t
def tw8769292035620797498:=t
def tw8714647264928099847:=t
def tw867098358873059836:=t
def tw8515651270977555612:=t
def tw8507333899325829779:=t
def tw8473126118983530748:=t
def tw8333873428286222463:=t
def tw8259502938697710758:=t
def tw8234218165551067858:=t
def tw8161533603713225459:=t
def tw8101745819579628306:=t
def tw807955668667656708:=t
def tw8078922133617698465:=t
def tw8010174046384565368:=t
def tw783118945753299748:=t
def tw7769792730403170544:=t
def tw7668416035550567949:=t
def tw7608424633698907484:=t
def tw7585915997407752782:=t
def tw7571563910280154156:=t
def tw7562037342169334344:=t
def tw7519776829715522192:=t
def tw7496459613621411694:=t
def tw7432859577187815133:=t
def tw7411755565426948084:=t
def tw7410412332619612193:=t
def tw7375232694610217263:=t
def tw7184566895264623606:=t
def tw7155680765323615930:=t
def tw7149578956476242541:=t
def tw7005968823937748014:=t
def tw694496922205732219:=t
def tw6890402181375572753:=t
def tw6838431408813573161:=t
def tw6687379495217028388:=t
def tw6652680149454691506:=t
def tw6640458603763707295:=t
def tw6553769216681029228:=t
def tw653062845402053297:=t
def tw6445623779737981576:=t
def tw6318370705613032408:=t
def tw6298596975649659667:=t
def tw6269885208921193674:=t
def tw6153436450776467700:=t
def tw6095686899963957218:=t
def tw6074268365298462978:=t
def tw5850072931096843614:=t
def tw5592350536347673878:=t
def tw5534209939708594079:=t
def tw5483407220558933753:=t
def tw5397346035018640592:=t
def tw5373572526035015988:=t
def tw5365205020035313617:=t
def tw5315790955393834013:=t
def tw5184821065416631924:=t
def tw5177114195243459032:=t
def tw517304219737508846:=t
def tw5137453691318974851:=t
def tw5125625493209769931:=t
def tw511890118539051330:=t
def tw5053802561924941459:=t
def tw5029100833474030558:=t
def tw491085522003597830:=t
def tw4825730824292749941:=t
def tw4772382792829594259:=t
def tw4726681567487282109:=t
def tw472126395891059196:=t
def tw4672905350937612867:=t
def tw4666284303105141960:=t
def tw4650322653614054086:=t
def tw4561817941207922078:=t
def tw4538867930461208872:=t
def tw430896946119943257:=t
def tw4290928800546296598:=t
def tw428929632744488809:=t
def tw422138186970135265:=t
def tw4172787596563966466:=t
def tw4159866289756187540:=t
def tw4153062454488530718:=t
def tw3930789829032221910:=t
def tw3885206335701050980:=t
def tw3880890356445382556:=t
def tw381049144667399337:=t
def tw3780635658392126292:=t
def tw3430069747783568618:=t
def tw3400096925055664559:=t
def tw336562488334350767:=t
def tw3305803949660726697:=t
def tw328835140449116465:=t
def tw3257679676257757995:=t
def tw3182885897049059155:=t
def tw2862800198203099972:=t
def tw2723941546189621882:=t
def tw2444759146217441413:=t
def tw2406953103546959452:=t
def tw2373828624877296307:=t
def tw2368367902296789419:=t
def tw2347603183956318814:=t
def tw230545954625019181:=t
def tw2184914552661799556:=t
def tw1898591861121567660:=t
def tw1850096604596414980:=t
def tw18252312595476654802:=t
def tw18212135089189655221:=t
def tw18200600402076141997:=t
def tw18178014595984217494:=t
def tw18173410363252872946:=t
def tw18021438752506094269:=t
def tw17995274586263554447:=t
def tw17800961058349537030:=t
def tw17738515131921866165:=t
def tw17712542753538167935:=t
def tw17709986070765040016:=t
def tw17709520078401983129:=t
def tw17669595025624169290:=t
def tw17667100834861595194:=t
def tw17574046370151531433:=t
def tw17539256635922655310:=t
def tw17491469257948423119:=t
def tw1747176532191105553:=t
def tw17302293358094647468:=t
def tw17265321764249877563:=t
def tw17245731093119168294:=t
def tw17061790531945934048:=t
def tw16910779645507691811:=t
def tw16761091582478744283:=t
def tw16734334802449202365:=t
def tw16724152634715675099:=t
def tw16688498439358389642:=t
def tw16651894022008703249:=t
def tw16533235859223090059:=t
def tw16361169117763215819:=t
def tw16186832491406974575:=t
def tw16167767108035869954:=t
def tw16134934384009426596:=t
def tw1609892597591423288:=t
def tw16093641150471944221:=t
def tw16078421521003260400:=t
def tw15942353929239828696:=t
def tw15935659703688238167:=t
def tw15917631911738438789:=t
def tw15906295974271833948:=t
def tw15884193782052491673:=t
def tw1581676474343002786:=t
def tw15796768551169370121:=t
def tw15602563591937573684:=t
def tw15580428244646996768:=t
def tw15505870225119533282:=t
def tw1532882510300025139:=t
def tw15280143437916666318:=t
def tw15239499681780779277:=t
def tw15185899902911231604:=t
def tw15179317063265527668:=t
def tw15081325290177944522:=t
def tw1501376820866584142:=t
def tw14983669191374170443:=t
def tw14884366455014327210:=t
def tw14696498841560894550:=t
def tw14690654009983700693:=t
def tw1461414971334560092:=t
def tw14557652720788989533:=t
def tw14532650023946372385:=t
def tw14504298601445284853:=t
def tw14429716471503826174:=t
def tw14401236500293619209:=t
def tw14141339349420803719:=t
def tw1413143224610966098:=t
def tw14069676627551232495:=t
def tw13998377703047770786:=t
def tw1380752310877008222:=t
def tw13753530904315533260:=t
def tw13698505667079270462:=t
def tw13691400988502121235:=t
def tw13648450489595434193:=t
def tw13590573423320880558:=t
def tw13571024129885811859:=t
def tw13554178755606273804:=t
def tw13520957729274556912:=t
def tw13511186477859631337:=t
def tw13436455995717958386:=t
def tw13396398707811075322:=t
def tw13110238396594923243:=t
def tw13104862341884746071:=t
def tw13026496506170264500:=t
def tw13024364364933042462:=t
def tw12957669876437361753:=t
def tw12836429812342008551:=t
def tw1272107359768348457:=t
def tw12713698046380515997:=t
def tw12618471144523575320:=t
def tw12533763864307507825:=t
def tw1251594747693282059:=t
def tw12483840166687610461:=t
def tw12253691362657145489:=t
def tw12226130820741948045:=t
def tw12139299596826266803:=t
def tw12130913354165197121:=t
def tw12025724267401541929:=t
def tw1201370865844808180:=t
def tw11957084622797973657:=t
def tw11837570564565599095:=t
def tw11810489505761374332:=t
def tw11730109023972075910:=t
def tw11663215194048105665:=t
def tw11623937593233790560:=t
def tw11603160334527679901:=t
def tw1140751520366571026:=t
def tw11319357188758497074:=t
def tw11146477303676054222:=t
def tw111290501449329242:=t
def tw11047353149847143241:=t
def tw11038007837412253159:=t
def tw11036250016323701800:=t
def tw10850598857747785326:=t
def tw10734782774994190172:=t
def tw10717081382353196353:=t
def tw10618258857182943734:=t
def tw10600310694597903017:=t
def tw1058372909832972646:=t
def tw10571493730223315089:=t
def tw10365003892987878320:=t
def tw10257012614963621831:=t
def tw10158021483324697745:=t
end PySem.W.Fast
local macro_rules|`(tactic| walk_at "def of the top")=>`(tactic| (refine' L3.Go ?a ?l ?c ?k;(case a=>k_is);(case l=>k_is);(case c=>k_is);(case k=>k_is)))
local macro_rules|`(tactic| walk_at "def of a class")=>`(tactic| (refine' L3.Gp ?l ?c ?k ?n;(case l=>k_is);(case c=>k_is);(case k=>k_is);(case n=>k_is)))
local macro_rules|`(tactic| walk_at "class of 3")=>`(tactic| (refine' L3.Ba ?ns ?g1 ?g2 ?g3 ?g4 ?m1 ?m2 ?m3 ?m4 ?na;(case ns=>k_is);(case g1=>k_is);(case g2=>k_is);(case g3=>k_is);(case g4=>k_is);(case m1=>k_is);(case m2=>k_is);(case m3=>k_is);(case m4=>k_is);(case na=>(refine' L3.Ku ?x ?y ?z;(case x=>k_is);(case y=>k_is);(case z=>k_is)))))
local macro_rules|`(tactic| walk_at "class of 7")=>`(tactic| (refine' L3.Ba ?ns ?g1 ?g2 ?g3 ?g4 ?m1 ?m2 ?m3 ?m4 ?na;(case ns=>k_is);(case g1=>k_is);(case g2=>k_is);(case g3=>k_is);(case g4=>k_is);(case m1=>k_is);(case m2=>k_is);(case m3=>k_is);(case m4=>k_is);(case na=>(refine' L3.Kw ?x ?y ?z ?u ?x1 ?y1 ?z1;(case x=>k_is);(case y=>k_is);(case z=>k_is);(case u=>k_is);(case x1=>k_is);(case y1=>k_is);(case z1=>k_is)))))
local macro_rules|`(tactic| walk_at "class of 8")=>`(tactic| (refine' L3.Ba ?ns ?g1 ?g2 ?g3 ?g4 ?m1 ?m2 ?m3 ?m4 ?na;(case ns=>k_is);(case g1=>k_is);(case g2=>k_is);(case g3=>k_is);(case g4=>k_is);(case m1=>k_is);(case m2=>k_is);(case m3=>k_is);(case m4=>k_is);(case na=>(refine' L3.Kv ?x ?y ?z ?u ?x1 ?y1 ?z1 ?u1;(case x=>k_is);(case y=>k_is);(case z=>k_is);(case u=>k_is);(case x1=>k_is);(case y1=>k_is);(case z1=>k_is);(case u1=>k_is)))))
local macro_rules|`(tactic| walk_at "state_of")=>`(tactic| (refine' L3.Dh ?a ?l ?e ?c ?k;(case a=>k_is);(case l=>k_is);(case e=>k_is);(case c=>k_is);(case k=>k_is)))
open PySem PySem.W PyProof.Rows
set_option maxRecDepth 100000 in
set_option maxHeartbeats 0 in
theorem PySem.Challenge.cw_rowsbeneath_k51_ways_of_rows_holds : PySem.Challenge.rw_rowsbeneath_k51_ways_of_rows.Holds := by
 w_on;o_law;k_head;(case hw=>w_witness2)
 k_fill
 refine L2.yi (l:=PySem.Challenge.rw_rowsbeneath_k51_ways_of_rows) (n:=63) (k:=28) (x:="_law_script") (CX:=L2.bQ) (sp:=L3.qC) rfl (by decide) rfl ⟨rfl,by decide,by decide⟩ (fun w h Y=>PySem.W.kIn_of Y) ?F (fun _ _ a ns hl _ hS=>⟨a,ns,rfl,hS,hl,fun _=>rfl⟩) (fun _ _ _ _ z=>z);case F=>
  intro w mg fa h KX G hmg;refine' L3.Gr KX G hmg ?d0 ?d1 ?d2 ?d3 ?d4 ?d5 ?d6 ?d7 ?d8 ?d9 ?d10 ?d11 ?d12 ?d13 ?d14 ?d15 ?d16 ?d17 ?d18 ?d19 ?d20 ?d21 ?d22 ?d23 ?d24 ?d25 ?d26 ?d27 ?d28 ?d29 ?d30 ?d31 ?d32 ?d33 ?d34 ?d35 ?d36 ?d37 ?d38 ?d39 ?d40 ?d41 ?d42 ?d43 ?d44 ?d45 ?d46 ?d47 ?d48 ?d49 ?d50 ?d51 ?d52 ?d53 ?d54 ?d55 ?d56 ?d57 ?d58 ?d59 ?d60 ?d61 ?d62 ?d63 ?d64 ?d65 ?d66 ?d67 ?d68 ?d69 ?d70 ?d71 ?d72 ?d73 ?CR ?IR ?CT ?IT ?CS ?IS ?CW ?IW ?Nl ?MX ?Nu ?M9 ?Nn ?MZ ?Np ?M5 ?Nq ?M6 ?No ?M0 ?Nk ?MV ?Nh ?MS ?Ng ?MR ?Nr ?M7 ?Nt ?M8 ?Nm ?MY ?Nj ?MU ?Ni ?MT ?Oh ?Od ?Om ?Oi ?Og ?Oj ?Of ?Oe ?Ol ?Ob ?N9 ?Oc ?Oa ?Oq ?Op ?Ow ?Os ?Ox ?N8 ?Ou ?Oo ?Ov ?N7 ?Ot ?On ?dO ?lo ?dSO ?OE ?OC ?OG ?OH ?OI ?OD ?OF ?OJ ?Oz ?OK ?Oy ?OA ?OB ?OL
  (case d0=>walk_at "def of the top")
  (case d1=>walk_at "def of the top")
  (case d2=>walk_at "def of the top")
  (case d3=>walk_at "def of the top")
  (case d4=>walk_at "def of the top")
  (case d5=>walk_at "def of the top")
  (case d6=>walk_at "def of the top")
  (case d7=>walk_at "def of the top")
  (case d8=>walk_at "def of the top")
  (case d9=>walk_at "def of the top")
  (case d10=>walk_at "def of the top")
  (case d11=>walk_at "def of the top")
  (case d12=>walk_at "def of the top")
  (case d13=>walk_at "def of the top")
  (case d14=>walk_at "def of the top")
  (case d15=>walk_at "def of the top")
  (case d16=>walk_at "def of the top")
  (case d17=>walk_at "def of the top")
  (case d18=>walk_at "def of the top")
  (case d19=>walk_at "def of the top")
  (case d20=>walk_at "def of the top")
  (case d21=>walk_at "def of the top")
  (case d22=>walk_at "def of the top")
  (case d23=>walk_at "def of the top")
  (case d24=>walk_at "def of the top")
  (case d25=>walk_at "def of the top")
  (case d26=>walk_at "def of the top")
  (case d27=>walk_at "def of the top")
  (case d28=>walk_at "def of the top")
  (case d29=>walk_at "def of the top")
  (case d30=>walk_at "def of the top")
  (case d31=>walk_at "def of the top")
  (case d32=>walk_at "def of the top")
  (case d33=>walk_at "def of the top")
  (case d34=>walk_at "def of the top")
  (case d35=>walk_at "def of the top")
  (case d36=>walk_at "def of the top")
  (case d37=>walk_at "def of the top")
  (case d38=>walk_at "def of the top")
  (case d39=>walk_at "def of the top")
  (case d40=>walk_at "def of the top")
  (case d41=>walk_at "def of the top")
  (case d42=>walk_at "def of the top")
  (case d43=>walk_at "def of the top")
  (case d44=>walk_at "def of the top")
  (case d45=>walk_at "def of the top")
  (case d46=>walk_at "def of the top")
  (case d47=>walk_at "def of the top")
  (case d48=>walk_at "def of the top")
  (case d49=>walk_at "def of the top")
  (case d50=>walk_at "def of the top")
  (case d51=>walk_at "def of the top")
  (case d52=>walk_at "def of the top")
  (case d53=>walk_at "def of the top")
  (case d54=>walk_at "def of the top")
  (case d55=>walk_at "def of the top")
  (case d56=>walk_at "def of the top")
  (case d57=>walk_at "def of the top")
  (case d58=>walk_at "def of the top")
  (case d59=>walk_at "def of the top")
  (case d60=>walk_at "def of the top")
  (case d61=>walk_at "def of the top")
  (case d62=>walk_at "def of the top")
  (case d63=>walk_at "def of the top")
  (case d64=>walk_at "def of the top")
  (case d65=>walk_at "def of the top")
  (case d66=>walk_at "def of the top")
  (case d67=>walk_at "def of the top")
  (case d68=>walk_at "def of the top")
  (case d69=>walk_at "def of the top")
  (case d70=>walk_at "def of the top")
  (case d71=>walk_at "def of the top")
  (case d72=>walk_at "def of the top")
  (case d73=>walk_at "def of the top")
  (case CR=>walk_at "class of 3")
  (case IR=>walk_at "def of a class")
  (case CT=>walk_at "class of 8")
  (case IT=>walk_at "def of a class")
  (case CS=>walk_at "class of 7")
  (case IS=>walk_at "def of a class")
  (case CW=>walk_at "class of 3")
  (case IW=>walk_at "def of a class")
  (case Nl=>k_is)
  (case MX=>walk_at "def of a class")
  (case Nu=>k_is)
  (case M9=>walk_at "def of a class")
  (case Nn=>k_is)
  (case MZ=>walk_at "def of a class")
  (case Np=>k_is)
  (case M5=>walk_at "def of a class")
  (case Nq=>k_is)
  (case M6=>walk_at "def of a class")
  (case No=>k_is)
  (case M0=>walk_at "def of a class")
  (case Nk=>k_is)
  (case MV=>walk_at "def of a class")
  (case Nh=>k_is)
  (case MS=>walk_at "def of a class")
  (case Ng=>k_is)
  (case MR=>walk_at "def of a class")
  (case Nr=>k_is)
  (case M7=>walk_at "def of a class")
  (case Nt=>k_is)
  (case M8=>walk_at "def of a class")
  (case Nm=>k_is)
  (case MY=>walk_at "def of a class")
  (case Nj=>k_is)
  (case MU=>walk_at "def of a class")
  (case Ni=>k_is)
  (case MT=>walk_at "def of a class")
  (case Oh=>k_is)
  (case Od=>k_is)
  (case Om=>k_is)
  (case Oi=>k_is)
  (case Og=>k_is)
  (case Oj=>k_is)
  (case Of=>k_is)
  (case Oe=>k_is)
  (case Ol=>k_is)
  (case Ob=>k_is)
  (case N9=>k_is)
  (case Oc=>k_is)
  (case Oa=>k_is)
  (case Oq=>k_is)
  (case Op=>k_is)
  (case Ow=>refine' L3.qE ?h;(case h=>k_is))
  (case Os=>k_is)
  (case Ox=>refine' L3.Bb ?h;(case h=>k_is))
  (case N8=>k_is)
  (case Ou=>refine' L3.Di ?h;(case h=>k_is))
  (case Oo=>k_is)
  (case Ov=>refine' L3.m6 ?h;(case h=>k_is))
  (case N7=>k_is)
  (case Ot=>refine' L3.ka ?h;(case h=>k_is))
  (case On=>k_is)
  (case dO=>refine' L3.Gq ?h;(case h=>k_is))
  (case lo=>rfl)
  (case dSO=>walk_at "state_of")
  (case OE=>k_is)
  (case OC=>k_is)
  (case OG=>k_is)
  (case OH=>k_is)
  (case OI=>k_is)
  (case OD=>k_is)
  (case OF=>k_is)
  (case OJ=>k_is)
  (case Oz=>k_is)
  (case OK=>k_is)
  (case Oy=>k_is)
  (case OA=>k_is)
  (case OB=>k_is)
  (case OL=>k_is)
