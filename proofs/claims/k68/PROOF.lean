import PyProof.Rows.All
import OpenK.KLine
import KE.KIsAll
import KE.KItem
import KE.KDictList
import KE.KIntText
import KE.KDictOf
import PyProof.EqAt
import PyProof.EqKinds
import PyProof.TupleCall
import PySem.Challenge.RW_rowsbeneath_k68_ends_apart
set_option Elab.async false
set_option linter.all false
set_option maxRecDepth 100000
set_option autoImplicit true
set_option relaxedAutoImplicit true
set_option maxHeartbeats 0
abbrev ZF:=PySem.W.Frag
section
open PySem PySem.Spec PyProof.Rows
abbrev Uw:=PySem.Value
abbrev Ux:=PySem.Addr
abbrev Uy:=PySem.Shared
abbrev Uz:=PySem.Program
abbrev UA:=PySem.World
abbrev UB:=PySem.Around
abbrev UC:=PySem.FuncData
abbrev UD:=List Str
abbrev UE:=List Nat
abbrev UF:=List (Str×Str)
def a_:=@PySem.wpAny_bind
def b_:=@decide_eq_true
def c_:=@PySem.wpAny_pure
def d_:=@decide_eq_false
def e_:=@if_neg
def f_:=@PySem.PassesOwn.never
def g_:=@if_pos
def h_:=@PySem.wpAny_mono
def i_:=@congrArg
def j_:=@of_decide_eq_true
def k_:=@List.length_range
def l_:=@PySem.wpAny_newObj_type
def m_:=@PySem.Heap.SameBut.update
def n_:=@PySem.Heap.get?_update_self
def o_:=@PySem.wpAny_standAt
def p_:=@PySem.wpAny_truthy_bool
def q_:=@PySem.wpAny_callSpecial?_slot
def r_:=@PySem.wpAny_field
def s_:=@PySem.wpAny_holding
def t_:=@PySem.wpAny_call_entry
def u_:=@Nat.zero_lt_one
def v_:=@List.replicate_succ'
def w_:=@PySem.F.slot_dict_get
def x_:=@PySem.wpAny_Call_Name_kw
def y_:=@PySem.wpAny_setField
def z_:=@PySem.wpAny_typeNameOfWhole_keyiter
def A_:=@PySem.wpAny_seqItems
def B_:=@PySem.tupleKind_room_in1
def C_:=@PySem.F.slot_dict_keyiterator_next
def D_:=@PySem.wpAny_passesOwn
def E_:=@Nat.le_add_right
def F_:=@List.replicate_succ
def G_:=@PySem.F.slot_tuple_iterator_next
def H_:=@PySem.F.entry_dict_get
def I_:=@PySem.wpAny_loadPart'
def J_:=@PySem.wpAny_pyIter_tuple
def K_:=@PySem.F.slot_zip_next
def L_:=@Nat.min_le_left
def M_:=@List.forIn_cons
def N_:=@List.getElem?_range
def O_:=@or_false
def Pi:=@Int.zero_add
def P_:=@decide_eq_true_iff
def Q_:=@PySem.Around.under_plainId
def RQ:=@PySem.Value.isStrOf_shape
def RR:=@Nat.lt_succ_of_lt
def RS:=@PySem.F.args_tuple_add_2
def RU:=@List.all_cons
def RV:=@PySem.F.entry_tuple_add
def RW:=@List.getElem?_replicate
def RX:=@PySem.codeAny_mono
def RY:=@PySem.Obj.data_mapFields
def RZ:=@PySem.F.slot_tuple_add
def R0:=@Ne.symm
def R1:=@PySem.wpAny_rule
def R3:=@PySem.call_meets
def R4:=@PySem.wpAny_pyIter_list
def R5:=@PySem.wpAny_pyIter_enum
def R6:=@PySem.wpAny_comprehension_free
def R7:=@PySem.W.methodCall_KW
def R8:=@Array.getElem?_toList
def R9:=@if_false
def R_:=@PySem.wpAny_attempt
def Sa:=@PySem.Paired.length
def Sb:=@PySem.W.plainGet_of
def Se:=@List.take_succ_cons
def Sf:=@List.getElem_of_mem
def Sg:=@PySem.wpAny_typeOf
def Sh:=@PySem.wpAny_execs_nil
def Si:=@PySem.codeAny_builtin
def Sj:=@Int.emod_lt_of_pos
def Sk:=@Bool.false_eq_true
def Sl:=@Array.find?_toList
def Sm:=@PySem.wpAny_newFunctionEnv
def Sn:=@PyProof.Rows.slot_tuple_getitem
def So:=@Nat.le_of_lt
def Sq:=@Nat.add_comm
def Sr:=@List.all_map
def Ss:=@List.drop_length
def Su:=@PySem.plainId_quiet
def Sv:=@Sum.inr.inj
def Sw:=@List.of_mem_zip
def Sx:=@Int.emod_nonneg
def Sy:=@PySem.F.slot_enumerate_next
def Sz:=@Int.fdiv_eq_ediv_of_nonneg
def SB:=@PySem.wpAny_dictEntries
def SD:=@PySem.wpAny_assign_Name
def SF:=@PySem.Calls.spliced_nil
def SI:=@Bool.false_and
def SJ:=@PySem.codeAny_loop
def SK:=@PySem.call_meetsIn
def SL:=@List.getElem?_take_of_lt
def SM:=@PySem.F.args_dict_keyiterator_next_1
abbrev SN:Str:="self"
abbrev SQ:Str:="table"
abbrev SU:Str:="place"
abbrev SV:Str:="width"
abbrev SW:Str:="chosen"
abbrev SX:Str:="known"
abbrev SY:Str:="reader"
abbrev SZ:Str:="places"
abbrev S0:Str:="kind"
abbrev S1:Str:="cells"
abbrev S2:Str:="mark"
abbrev S3:Str:="fault"
abbrev S4:Str:="other"
abbrev S5:Str:="marks"
abbrev S6:Str:="thing"
abbrev S7:Str:="names"
abbrev S8:Str:="word"
abbrev S9:Str:="depth"
abbrev S_:Str:="call"
abbrev Ta:Str:="back"
abbrev Td:Str:="given"
abbrev Te:Str:="state"
abbrev Tf:Str:="kinds_known"
abbrev Tg:Str:="sort"
abbrev Th:Str:="one"
abbrev Ti:Str:="words"
abbrev Tj:Str:="_law_fields"
abbrev Tk:Str:="operands"
abbrev Tl:Str:="brackets"
abbrev Tn:Str:="row"
abbrev To:Str:="next"
abbrev Tp:Str:="stop"
abbrev Tq:Str:="_law_script"
abbrev Tr:Str:="high"
abbrev Ts:Str:="_law_depth"
abbrev Tu:Str:="sel"
abbrev Tw:Str:="_law_other"
abbrev Tx:Str:="tokens"
abbrev Tz:Str:="_law_stream_here"
abbrev TB:Str:="sets"
abbrev TD:Str:="leaf"
abbrev TH:Str:="choices"
abbrev TJ:Str:="choice"
abbrev TL:Str:="deed"
abbrev TM:Str:="kinds"
abbrev TN:Str:="sorts"
abbrev TQ:Str:="gate"
abbrev TU:Str:="fields"
abbrev TV:Str:="told"
abbrev TY:Str:="_law_one"
abbrev TZ:Str:="field"
abbrev T0:Str:="deep"
abbrev T3:Str:="address"
abbrev T4:Str:="_law_cell_here"
abbrev T5:Str:="_law_same_here"
abbrev T6:Str:="text"
abbrev T7:Str:="bare"
abbrev T8:Str:="many"
abbrev T9:Str:="top"
abbrev T_:Str:="cell_free"
abbrev Ua:Str:="_law_sets"
abbrev Ub:Str:="way"
abbrev Uc:Str:="test"
abbrev Ud:Str:="pile"
abbrev Ue:Str:="_law_end"
abbrev Uf:Str:="low"
abbrev Ug:Str:="singles"
abbrev Uh:Str:="go"
abbrev Ui:Str:="at"
abbrev Uj:Str:="spot"
abbrev Uk:Str:="else"
abbrev Ul:Str:="rows"
abbrev Um:Str:="free"
abbrev Uo:Str:="end"
abbrev Up:Str:="target"
abbrev Uq:Str:="token"
abbrev Ur:Str:="body"
abbrev Us:Str:="atom"
abbrev Ut:Str:="if"
abbrev Uu:Str:="e"
abbrev Uv:Str:="k"
def Jz:=@Heap.get?_push_of_some
def JA:=@List.getElem?_eq_some_iff
def JB:=@Nat.le_refl
def JC:=@List.length_map
def JD:=@Heap.lt_size
def JE:=@List.mem_append_right
def JF:=@List.mem_cons_self
def JG:=@Heap.get?_push_size
def JH:=@List.length_append
def JI:=@PySem.boot_len
def JJ:=@List.size_toArray
def JK:=@Bool.false_ne_true
def JL:=@List.mem_singleton
def JM:=@List.length_replicate
def JN:=@Nat.zero_le
def JO:=@Nat.ne_of_lt
def JP:=@List.mem_of_getElem?
def JQ:=@PySem.W.mg_of
def JR:=@List.map_append
def JS:=@Option.some.inj
def JT:=@List.mem_cons
def JU:=@List.length_take
def JV:=@List.mem_cons_of_mem
def JW:=@Nat.lt_of_lt_of_le
def JX:=@List.length_cons
def JY:=@List.append_assoc
def JZ:=@List.mem_append_left
def J0:=@PySem.F.type_list_append
def J1:=@PySem.F.slot_list_append
def J3:=@PySem.W.mg_none_of
def J4:=@Nat.le_trans
def J5:=@List.getElem?_map
def J6:=@List.lookup_cons
def J7:=@PySem.F.plainAttrs_list
def J8:=@List.contains_iff_mem
def J9:=@List.map_cons
def Ka:=@List.drop_eq_getElem_cons
def Kb:=@Bool.and_eq_true
def Kc:=@List.mem_append
def Kd:=@List.getElem?_eq_getElem
def Ke:=@PyProof.Rows.callWith_type1
def Kf:=@PySem.W.kia_one
def Kg:=@List.take_length
def Kh:=@List.take_succ
def Ki:=@List.all_eq_true
def Kj:=@List.not_mem_nil
def Kk:=@Nat.lt_irrefl
def Kl:=@Heap.size_push
def Km:=@Bool.eq_iff_iff
def Ko:=@List.append_nil
def Kp:=@List.length_drop
def Kq:=@Int.toNat_natCast
def Kr:=@List.cons_append
def Ks:=@List.mem_map
def Kt:=@Array.length_toList
def Ku:=@List.find?_cons
def Kv:=@Nat.lt_succ_self
def Kw:=@List.take_append_drop
def Kx:=@List.mem_range
def Ky:=@List.getElem?_append_left
def Kz:=@List.range_succ
def KB:=@Bool.eq_false_iff
def KC:=@Nat.ne_of_gt
def KE:=@List.length_eq_zero_iff
def KF:=@Prod.mk.inj
def KG:=@List.filterMap_cons
def KH:=@PySem.mem_of_lookup
def KJ:=@Calls.callWith_builtin
def KL:=@List.take_of_length_le
def KM:=@PySem.W.callWith_K
def KO:=@List.length_nil
def KP:=@List.getElem?_append_right
def KQ:=@Calls.evalArgs_plain
def KR:=@List.map_map
def KS:=@List.nil_append
def KU:=@List.nodup_cons
def KW:=@Calls.spliced_cons
def KY:=@Option.isSome_map
def KZ:=@List.flatten_cons
def K0:=@PyProof.Rows.boot_int
def K1:=@List.getElem_mem
def K2:=@List.any_cons
end
set_option hygiene false in
local macro_rules|`(tactic| walk_at "l")=>`(tactic| first|(cases h;subst_vars;rfl)|((repeat rcases h with⟨_,h⟩)<;>(subst_vars;rfl)))
set_option hygiene false in
local macro_rules|`(tactic| walk_at "o")=>`(tactic| refine F.ok ZZ (fun vs H Q E h=>by walk_at "l") (fun Lb A outer s H vs Q E hr h=>?_))
def zk{p:Prop}(h:p:=by decide +kernel):p:=h
def zo{p:Prop}(h:p:=by lia):p:=h
def zd{p:Prop}(h:p:=by decide):p:=h
def N0(h:Nat.ble n 1000=true:=by rfl):n<=PySem.sizeLine:=Nat.le_trans (Nat.le_of_ble_eq_true h) zd
namespace L2
open PySem PySem.Spec PyProof.Rows
abbrev dm:=Sum Int Str
def li:dm->Uw->Bool
 |.inl k,v=>Value.isInt k v
 |.inr x,v=>Value.isStrOf x v
def G3(w:UA):dm->Int
 |.inl k=>hashInt k
 |.inr x=>hashStr w x
def ca:∀{k:dm}{v:Uw},li k v=true->(∃i t,k=Sum.inl i/\v=Value.int i t)\/(∃x t,k=Sum.inr x/\v=Value.str x t)
 |.inl i,v,h=>by
  obtain⟨t,e⟩:=Value.isInt_shape (k:=i) (v:=v) h;exact .inl ⟨i,t,rfl,e⟩
 |.inr x,v,h=>by
  obtain⟨t,e⟩:=RQ (x:=x) (v:=v) h;exact .inr ⟨x,t,rfl,e⟩
def tZ(i:Int)(t:Tok):li (.inl i) (.int i t)=true:=by simp[li,Value.isInt]
def ub(x:Str)(t:Tok):li (.inr x) (.str x t)=true:=by simp[li,Value.isStrOf]
def B5(a b:Int):decide ((Sum.inl a:dm)=Sum.inl b)=(a==b):=by
 by_cases e:a=b
 ·subst e;simp
 ·have h:¬(Sum.inl a:dm)=Sum.inl b:=fun q=>e (Sum.inl.inj q);rw[d_ h];exact(beq_eq_false_iff_ne.mpr e).symm
def B6(a b:Str):decide ((Sum.inr a:dm)=Sum.inr b)=decide (a=b):=by
 by_cases e:a=b
 ·subst e;simp
 ·have h:¬(Sum.inr a:dm)=Sum.inr b:=fun q=>e (Sv q);rw[d_ h,d_ e]
def B7(a:Int)(b:Str):decide ((Sum.inl a:dm)=Sum.inr b)=false:=d_ (fun q=>nomatch q)
def B8(a:Str)(b:Int):decide ((Sum.inr a:dm)=Sum.inl b)=false:=d_ (fun q=>nomatch q)
def bU(prog:Uz)(w:UA):PySem.KeyKind prog w dm where
 is:=li
 hash:=G3 w
 inj:=fun v a b ha hb=>by
  rcases ca ha with⟨i,t,rfl,rfl⟩|⟨x,t,rfl,rfl⟩
  ·rcases ca hb with⟨j,u,rfl,e⟩|⟨y,u,rfl,e⟩
   ·injection e with e1 _;rw[e1]
   ·exact nomatch e
  ·rcases ca hb with⟨j,u,rfl,e⟩|⟨y,u,rfl,e⟩
   ·exact nomatch e
   ·injection e with e1 _;rw[e1]
 byValue:=fun k v h=>by
  rcases ca h with⟨i,t,rfl,rfl⟩|⟨x,t,rfl,rfl⟩<;>rfl
 pyHash:=fun hv h=>by
  rcases ca hv with⟨i,t,rfl,rfl⟩|⟨x,t,rfl,rfl⟩
  ·exact wpAny_pyHash_int h
  ·exact wpAny_pyHash_str h
 eqBool:=fun hu hv h=>by
  rcases ca hu with⟨i,t,rfl,rfl⟩|⟨x,t,rfl,rfl⟩
  ·rcases ca hv with⟨j,u,rfl,rfl⟩|⟨y,u,rfl,rfl⟩
   ·rw[B5]at h;exact wpAny_eqBool_int h
   ·rw[B7]at h;exact SeqAt.EqAt.int_str i t y u _ _ _ _ h
  ·rcases ca hv with⟨j,u,rfl,rfl⟩|⟨y,u,rfl,rfl⟩
   ·rw[B8]at h;exact SeqAt.EqAt.str_int x t j u _ _ _ _ h
   ·rw[B6]at h;exact wpAny_eqBool_str h
 «strs»:=fun k x t v h=>by
  rcases ca h with⟨i,u,rfl,e⟩|⟨y,u,rfl,e⟩
  ·exact nomatch e
  ·injection e with e1 _;subst e1;cases v<;>rfl
def oF(prog:Uz)(w:UA)(i:Int)(t:Tok):(bU prog w).is (.inl i) (.int i t)=true:=tZ i t
def oG(prog:Uz)(w:UA)(x:Str)(t:Tok):(bU prog w).is (.inr x) (.str x t)=true:=ub x t
inductive V where
 |non|bl (b:Bool)|int (i:Int)|str (x:Str)|byt (b:Array UInt8)|flt (b:UInt64)|ref (a:Ux)|ty (n:String)
 deriving DecidableEq
abbrev UG:=List V
def NY:V->Uw->Prop
 |.non,u=>u=Value.none
 |.bl b,u=>u=Value.bool b
 |.int i,u=>∃t,u=Value.int i t
 |.str x,u=>∃t,u=Value.str x t
 |.byt b,u=>∃t,u=Value.bytes b t
 |.flt b,u=>∃t,u=Value.float b t
 |.ref a,u=>u=Value.ref a
 |.ty n,u=>u=Value.type n
abbrev NV:UG->List Uw->Prop:=Paired NY
variable{us:List Uw}{xs:UG}
def NV.length(r:NV xs us):xs.length=us.length:=Sa r
def NV.get:∀{xs:UG}{us:List Uw}{i:Nat}{x:V},NV xs us->xs[i]?=some x->∃u,us[i]?=some u/\NY x u
 |_,_,_,_,.nil,e=>by simp at e
 |_,_,0,_,.cons r _,e=>by simp at e;subst e;exact⟨_,rfl,r⟩
 |_,_,i+1,x,.cons _ t,e=>by
  obtain⟨u,h1,h2⟩:=NV.get (i:=i) (x:=x) t (by simpa using e);exact⟨u,by simpa using h1,h2⟩
variable{u:Uw}{x:V}
def NV.set(r:NY x u):∀{xs:UG}{us:List Uw}(i:Nat),NV xs us->NV (xs.set i x) (us.set i u)
 |_,_,_,.nil=>.nil
 |_,_,0,.cons _ t=>.cons r t
 |_,_,i+1,.cons q t=>.cons q (NV.set r i t)
def NV.append:∀{xs ys:UG}{us ws:List Uw},NV xs us->NV ys ws->NV (xs++ys) (us++ws)
 |_,_,_,_,.nil,s=>s
 |_,_,_,_,.cons r t,s=>.cons r (NV.append t s)
def NV.take:∀{xs:UG}{us:List Uw}(n:Nat),NV xs us->NV (xs.take n) (us.take n)
 |_,_,0,_=>.nil
 |_,_,_+1,.nil=>.nil
 |_,_,n+1,.cons r t=>.cons r (NV.take n t)
def NV.drop:∀{xs:UG}{us:List Uw}(n:Nat),NV xs us->NV (xs.drop n) (us.drop n)
 |_,_,0,r=>r
 |_,_,_+1,.nil=>.nil
 |_,_,n+1,.cons _ t=>NV.drop n t
def Oj:Option V->Option Uw->Prop
 |some v,some u=>NY v u
 |none,none=>True
 |_,_=>False
def KV{κ:Type}:List (κ×V)->List (κ×Uw)->Prop:=Paired fun(p:κ×V)(q:κ×Uw)=>p.1=q.1/\NY p.2 q.2
def kV:dm->V
 |.inl i=>.int i
 |.inr x=>.str x
inductive HO where
 |lst (xs:UG)
 |tup (xs:UG)
 |dK (kvs:List (dm×V))|dT (kvs:List (List dm×V))
 |set (S:Int->Bool) (n:Nat)
 |ins (C dx:Ux) (fs:List (Str×V))
 |own (x:Ux)
 |xd (fs:List (Str×V))
 |met (f x:Ux)
 |rng (lo hi:Int)
 |frz (o:Obj) (u:HO)
 |tbl (ps:Array Uw)
 |ext (φ:Heap->Prop)
abbrev Hp:=Ux->Option HO
def az(H:Hp)(a:Ux)(o:HO):Hp:=fun b=>if b=a then some o else H b
variable{o:HO}{a:Ux}{H:Hp}
def ac:az H a o a=some o:=by unfold az;rw[g_ rfl]
variable{b:Ux}
def ao(h:b≠a):az H a o b=H b:=by unfold az;rw[e_ h]
def zn{o u:HO}:az (az H a o) a u=az H a u:=by
 funext b;unfold az;split<;>rfl
def Ba{o u:HO}(h:H a=some o)(h':H b=some u)(d:o≠u):a≠b:=by
 intro e;subst e;rw[h]at h';exact d (JS h')
def aI(h:H a=some o)(h':H b=none):a≠b:=by
 intro e;subst e;rw[h]at h';cases h'
def O4(h:Heap)(a:Ux)(Lf:Array Uw):Prop:=∃o,h.get? a=some o/\(o.cls,o.dict)=(Value.type "tuple",none)/\∃n,o.data=Data.seq Lf n
variable{Lf:Array Uw}{h:Heap}
def O4.up(p:O4 h a Lf):IsTup h a Lf:=by obtain⟨o,e,c,d⟩:=p;exact ⟨o,e,(KF c).1,d⟩
def O4.lt(p:O4 h a Lf):a<h.objs.size:=let⟨_,e,_⟩:=p;JD e
def O4.new(h:Heap)(Lf:Array Uw):O4 (h.push {cls:=.type "tuple",data:=.seq Lf}) h.objs.size Lf:=⟨_,JG _ rfl,rfl,_,rfl⟩
section
variable(P:Uz)(w:UA)
def N2(H:Hp)(h:Heap)(a:Ux):HO->Prop
 |.lst xs=>xs.length<=sizeLine/\∃(f':List Uw)(n:Nat),NV xs f'/\h.get? a=some {cls:=.type "list",data:=.seq f'.toArray n}
 |.tup xs=>xs.length<=sizeLine/\∃f':List Uw,NV xs f'/\O4 h a f'.toArray
 |.dK kvs=>kvs.length<=sizeLine/\(a==sysModules)=false/\∃vs,KV kvs vs/\h.DictOf (bU P w) a vs
 |.dT kvs=>kvs.length<=sizeLine/\(a==sysModules)=false/\∃xs:List (List dm×Ux×Uw),
   Paired (fun(p:List dm×V)(q:List dm×Ux×Uw)=>p.1=q.1/\H q.2.1=some (.tup (p.1.map kV))/\NY p.2 q.2.2) kvs xs /\
   ∃o es ep,h.get? a=some o/\o.ExactDict/\o.data=.dict es ep/\es.toList=xs.map (entryOfKey (tupleKind (bU P w)))/\(xs.map (·.1)).Nodup
 |.set S n=>h.SetOf (intKind P w) a S n
 |.ins C dx fs=>H dx=some (.own a)/\fs.length<=1000/\dx≠a/\h.get? a=some (PySem.W.instObj C dx) /\
   ∃mA,h.Ns1 dx mA/\(∀f,Oj (fs.lookup f) (mA f))/\PySem.Within mA (fs.map (·.1))
 |.own _=>∃o,h.get? a=some o
 |.xd fs=>∃mA,h.Ns1 a mA/\∀f,Oj (fs.lookup f) (mA f)
 |.rng lo hi=>∃t u v,h.get? a=some {cls:=.type "range",data:=.fields #[.int lo t,.int hi u,.int 1 v]}
 |.frz o u=>h.get? a=some o/\N2 H h a u
 |.tbl ps=>h.get? a=some {cls:=.none,data:=.fields ps}
 |.met f x=>h.get? a=some (PySem.W.methodObj (.ref f) (.ref x))
 |.ext φ=>φ h/\(∃o,h.get? a=some o)/\∀h1 h2:Heap,φ h1->(∀o,h1.get? a=some o->h2.get? a=some o)->φ h2
def Oq(H:Hp)(h:Heap):Prop:=∀a o,H a=some o->N2 P w H h a o
end
section
variable{P:Uz}{w:UA}{H H':Hp}{h h':Heap}{a:Ux}{o:HO}
def N2.lt(x:N2 P w H h a o):a<h.objs.size:=by
 cases o with
 |lst xs=>obtain⟨_,_,_,_,e⟩:=x;exact JD e
 |tup xs=>obtain⟨_,_,_,p⟩:=x;exact p.lt
 |dK kvs=>obtain⟨_,_,_,_,o,_,_,e,_⟩:=x;exact JD e
 |dT kvs=>obtain⟨_,_,_,_,o,_,_,e,_⟩:=x;exact JD e
 |set S n=>obtain⟨o,_,_,_,e,_⟩:=x;exact JD e
 |ins C dx fs=>obtain⟨_,_,_,e,_⟩:=x;exact JD e
 |own y=>obtain⟨_,e⟩:=x;exact JD e
 |xd fs=>obtain⟨_,⟨_,_,_,e,_⟩,_⟩:=x;exact JD e
 |rng lo hi=>obtain⟨_,_,_,e⟩:=x;exact JD e
 |frz ob u=>obtain⟨e,_⟩:=x;exact JD e
 |tbl ps=>exact JD (show h.get? a=some _ from x)
 |met f y=>exact JD (show h.get? a=some _ from x)
 |ext φ=>obtain⟨_,⟨_,e⟩,_⟩:=x;exact JD e
def Paired.mapP{α β:Type}{F G:α->β->Prop}:∀{l₁:List α}{l₂:List β},Paired F l₁ l₂->(∀a b,F a b->G a b)->Paired G l₁ l₂
 |_,_,.nil,_=>.nil
 |_,_,.cons r t,f=>.cons (f _ _ r) (Paired.mapP t f)
def N2.stay(x:N2 P w H h a o)(k:∀b u,(b=a\/H b=some (.own a))->h.get? b=some u->h'.get? b=some u)
  (ho:∀b,H b=some (.own a)->H' b=some (.own a)) (ht:∀b xs,H b=some (.tup xs)->H' b=some (.tup xs)):N2 P w H' h' a o:=by
 induction o with
 |lst xs=>obtain⟨z,f',n,r,e⟩:=x;exact⟨z,f',n,r,k _ _ (.inl rfl) e⟩
 |tup xs=>obtain⟨z,f',r,ob,e,c⟩:=x;exact⟨z,f',r,ob,k _ _ (.inl rfl) e,c⟩
 |dK kvs=>obtain⟨z,y,vs,r,ob,es,ep,e,c⟩:=x;exact⟨z,y,vs,r,ob,es,ep,k _ _ (.inl rfl) e,c⟩
 |dT kvs=>
  obtain⟨z,y,xs,r,ob,es,ep,e,c⟩:=x;exact⟨z,y,xs,Paired.mapP r fun p q z=>⟨z.1,ht _ _ z.2.1,z.2.2⟩,ob,es,ep,k _ _ (.inl rfl) e,c⟩
 |set S n=>obtain⟨ob,es,ep,t,e,c⟩:=x;exact⟨ob,es,ep,t,k _ _ (.inl rfl) e,c⟩
 |ins C dx fs=>
  obtain⟨d,z,ne,e,mA,⟨od,es,ep,e2,c⟩,r⟩:=x;exact⟨ho _ d,z,ne,k _ _ (.inl rfl) e,mA,⟨od,es,ep,k _ _ (.inr d) e2,c⟩,r⟩
 |own y=>obtain⟨ob,e⟩:=x;exact⟨ob,k _ _ (.inl rfl) e⟩
 |xd fs=>obtain⟨mA,⟨od,es,ep,e,c⟩,r⟩:=x;exact⟨mA,⟨od,es,ep,k _ _ (.inl rfl) e,c⟩,r⟩
 |rng lo hi=>obtain⟨t,u,v,e⟩:=x;exact⟨t,u,v,k _ _ (.inl rfl) e⟩
 |frz ob u ih=>obtain⟨e,q⟩:=x;exact⟨k _ _ (.inl rfl) e,ih q⟩
 |tbl ps=>
  have e:h.get? a=some {cls:=.none,data:=.fields ps}:=x;show h'.get? a=some {cls:=.none,data:=.fields ps};exact k a _ (.inl rfl) e
 |met f y=>
  have e:h.get? a=some (PySem.W.methodObj (.ref f) (.ref y)):=x;show h'.get? a=some (PySem.W.methodObj (.ref f) (.ref y));exact k a _ (.inl rfl) e
 |ext φ=>obtain⟨p,⟨o,e⟩,st⟩:=x;exact⟨st _ _ p fun o q=>k _ _ (.inl rfl) q,⟨o,k _ _ (.inl rfl) e⟩,st⟩
def Oq.lt(x:Oq P w H h)(e:H a=some o):a<h.objs.size:=(x a o e).lt
def Oq.fresh(x:Oq P w H h)(e:h.objs.size<=a):H a=none:=by
 cases q:H a with
 |none=>rfl
 |some u=>exact absurd (JW (x.lt q) e) (Kk _)
def Oq.kept(x:Oq P w H h)(k:∀b u,h.get? b=some u->h'.get? b=some u):Oq P w H h':=fun a o e=>
 (x a o e).stay (fun b u _ q=>k b u q) (fun _ q=>q) fun _ _ q=>q
def Oq.laid(x:Oq P w H h)(k:∀b u,h.get? b=some u->h'.get? b=some u)(hp:h.objs.size<=a)(new:N2 P w (az H a o) h' a o):Oq P w (az H a o) h':=fun b u e=>by
 have hn:=x.fresh hp;by_cases hb:b=a
 ·subst hb;rw[ac]at e;cases e;exact new
 ·rw[ao hb]at e;exact(x b u e).stay (fun c v _ q=>k c v q) (fun c q=>by rw[ao (aI q hn)];exact q) fun c xs q=>by rw[ao (aI q hn)];exact q
end
def Rd(H:Hp)(a:Ux)(u:HO):Prop:=H a=some u\/∃o,H a=some (.frz o u)
variable{w:UA}{P:Uz}
def Rd.ok{u:HO}(r:Rd H a u)(x:Oq P w H h):N2 P w H h a u:=by
 rcases r with r|⟨o,r⟩
 ·exact x a u r
 ·obtain⟨_,q⟩:=x a _ r;exact q
def EV:Option HO->Prop
 |some (.lst _)=>True
 |some (.dK _)=>True
 |some (.dT _)=>True
 |some (.set _ _)=>True
 |some (.ins _ _ _)=>True
 |some (.ext _)=>True
 |_=>False
section
variable{P:Uz}{w:UA}{H:Hp}{h h':Heap}{x e:Ux}{o':HO}
def Oq.write(ok:Oq P w H h)(mu:EV (H x))(he:e=x\/H e=some (.own x))(k:∀b u,b≠e->h.get? b=some u->h'.get? b=some u)(XW:∃u,h'.get? e=some u)
  (new:N2 P w (az H x o') h' x o'):Oq P w (az H x o') h':=fun b u q=>by
 have YN:∀c y,H c=some (.own y)->c≠x:=fun c y r z=>by subst z;rw[r]at mu;exact mu
 have ntup:∀c xs,H c=some (.tup xs)->c≠x:=fun c xs r z=>by subst z;rw[r]at mu;exact mu
 by_cases hb:b=x
 ·subst hb;rw[ac]at q;cases q;exact new
 ·rw[ao hb]at q;by_cases Xx:b=e
  ·have q':H b=some (.own x):=by
    rcases he with z|z
    ·exact absurd (Xx.trans z) hb
    ·rw[Xx];exact z
   rw[q]at q';cases q';obtain⟨v,hv⟩:=XW;exact⟨v,by rw[Xx];exact hv⟩
  ·refine(ok b u q).stay (fun c v hc r=>k c v ?_ r) (fun c r=>by rw[ao (YN c b r)];exact r) fun c xs r=>by rw[ao (ntup c xs r)];exact r
   rcases hc with rfl|hc
   ·exact Xx
   ·rintro rfl;rcases he with z|z
    ·exact YN c b hc z
    ·rw[hc]at z;cases z;exact hb rfl
end
structure Un(fs ex:List Ux)(H H':Hp)(h h':Heap):Prop where
 keep:∀b o,h.get? b=some o->H b=none->b∉fs->b∉ex->h'.get? b=some o
 slot:∀b o,h.get? b=some o->H b=none->b∈fs->b∉ex->∃sl,h'.get? b=some {o with slots:=sl}
 free:∀b o,h.get? b=some o->H b=none->b∉ex->H' b=none
 there:∀b o,h.get? b=some o->b∉ex->∃o',h'.get? b=some o'
 tups:∀b xs,H b=some (.tup xs)->H' b=some (.tup xs)
 frzs:∀b o u,H b=some (.frz o u)->H' b=some (.frz o u)
 tbls:∀b ps,H b=some (.tbl ps)->∃more,H' b=some (.tbl (ps++more))
section
variable{fs XY ex ex':List Ux}{H H1 H2:Hp}{h h1 h2 h':Heap}{a x e:Ux}{o:HO}
def Un.any(u:Un fs ex H H1 h h1){ob:Obj}(q:h.get? b=some ob)(n:H b=none)(hx:b∉ex):∃sl,h1.get? b=some {ob with slots:=sl}:=by
 by_cases hb:b∈fs
 ·exact u.slot b ob q n hb hx
 ·exact⟨ob.slots,u.keep b ob q n hb hx⟩
def Un.kept(k:∀b u,h.get? b=some u->h'.get? b=some u):Un fs ex H H h h':=
 ⟨fun b ob q _ _ _=>k b ob q,fun b ob q _ _ _=>⟨ob.slots,k b ob q⟩,fun _ _ _ n _=>n,fun b ob q _=>⟨ob,k b ob q⟩,fun _ _ q=>q,fun _ _ _ q=>q,fun _ ps q=>⟨#[],by rw[q];simp⟩⟩
def Un.refl:Un fs ex H H h h:=Un.kept fun _ _ q=>q
def Un.laid(k:∀b u,h.get? b=some u->h'.get? b=some u)(hp:h.objs.size<=a)(hn:H a=none):Un fs ex H (az H a o) h h' where
 keep:=fun b u q _ _ _=>k b u q
 slot:=fun b u q _ _ _=>⟨u.slots,k b u q⟩
 free:=fun b u q n _=>by rw[ao (JO (JW (JD q) hp))];exact n
 there:=fun b u q _=>⟨u,k b u q⟩
 tups:=fun b xs q=>by rw[ao (aI q hn)];exact q
 frzs:=fun b u xs q=>by rw[ao (aI q hn)];exact q
 tbls:=fun b ps q=>⟨#[],by rw[ao (aI q hn),q];simp⟩
def Un.write(mu:EV (H x))(he:e=x\/H e=some (.own x))(k:∀b u,b≠e->h.get? b=some u->h'.get? b=some u)(XW:∃u,h'.get? e=some u):Un fs ex H (az H x o) h h':=by
 have hx:∀b,H b=none->b≠x:=fun b n z=>by subst z;rw[n]at mu;exact mu
 have hb:∀b,H b=none->b≠e:=fun b n z=>by
  subst z;rcases he with r|r
  ·exact hx b n r
  ·rw[n]at r;cases r
 have hm:∀b u,H b=some u->¬EV (some u)->b≠x:=fun b u q nm z=>by subst z;rw[q]at mu;exact nm mu
 refine⟨fun b u q n _ _=>k b u (hb b n) q,fun b u q n _ _=>⟨u.slots,k b u (hb b n) q⟩,fun b u q n _=>by rw[ao (hx b n)];exact n,fun b u q _=>?_,
  fun b xs q=>by rw[ao (hm b _ q fun z=>z)];exact q,fun b u xs q=>by rw[ao (hm b _ q fun z=>z)];exact q,fun b ps q=>⟨#[],by rw[ao (hm b _ q fun z=>z),q];simp⟩⟩
 by_cases Xx:b=e
 ·subst Xx;exact XW
 ·exact⟨u,k b u Xx q⟩
end
def GR(h:Heap)(H:Hp):List Ux:=(List.range h.objs.size).filter fun a=>(H a).isSome
def lU(h:Heap)(H:Hp):Heap:=PySem.W.hideAll h (GR h H)
def ud(h:Heap)(H:Hp):(lU h H).objs.size=h.objs.size:=PySem.W.hideAll_size _ _
def vQ{o:Obj}(e:h.get? b=some o)(n:H b=none):(lU h H).get? b=some o:=
 PySem.W.hideAll_get _ e fun hm=>by
  have q:(H b).isSome=true:=(List.mem_filter.mp hm).2;rw[n]at q;simp at q
def zp{o:Obj}(e:(lU h H).get? b=some o):h.get? b=some o/\H b=none:=by
 have e':h.get? b=some o:=PySem.W.of_hideAll (GR h H) e;refine⟨e',?_⟩;cases q:H b with
 |none=>rfl
 |some x=>
  have hm:b∈GR h H:=List.mem_filter.mpr ⟨Kx.mpr (JD e'),by simp[q]⟩;have z:(lU h H).get? b=none:=PySem.W.hideAll_none (GR h H) hm;rw[z]at e;cases e
structure Mod(K:ZF)(mg:Str->Option Uw)(base:Heap):Prop where
 kin:K.In base
 glob:base.Ns mainGlobals mg
 blt:∃mb,base.Ns builtinsNs mb/\∀x:Str,x≠"__name__"->mb x=bootBuiltins x
 nolimit:base.NoLimit
structure Cx where
 prog:Uz
 w:UA
 K:ZF
 mg:Str->Option Uw
 base:Heap
 A:UB
 N:UD
 s₀:Uy
 H₀:Hp
 env:Env
 outer:List Env
 stack:List Env
 ex:List Ux
 fn:Str->Bool
 calm:Bool
 pn:List (Ux×Obj)
 xe:Uw->Uy->Prop
def oH(l:List Env):List Ux:=l.filterMap (·.frame)
abbrev Cx.fs(X:Cx):List Ux:=oH X.outer
def GT(sc:Scope)(x:Str):Prop:=sc.names.lookup x=some .local\/sc.names.lookup x=some .cell\/sc.names.lookup x=some .free
def B9(sc:Scope)(x:Str):Prop:=sc.names.lookup x=some .local\/sc.names.lookup x=some .cell
def G4(env:Env)(h:Heap)(m:Str->Option Uw)(x:Str)(u:Uw):Prop:=
 (env.kindOf x=some .local/\m x=some u)\/((env.kindOf x=some .cell\/env.kindOf x=some .free)/\∃c,env.cells.lookup x=some c/\h.IsCell c (some u))
structure Cx.Ok(X:Cx):Prop where
 mod:Mod X.K X.mg X.base
 kind:X.env.scope.kind=.function
 glob:X.env.globals=mainGlobals
 blt:X.env.builtins=builtinsNs
 above:X.s₀.heap.objs.size<=X.env.locals
 inj:∀x y c,X.env.cells.lookup x=some c->X.env.cells.lookup y=some c->x=y
 has:∀x,(X.env.kindOf x=some .cell\/X.env.kindOf x=some .free)->∃c,X.env.cells.lookup x=some c
 cab:∀x c,X.fn x=true->X.env.cells.lookup x=some c->X.s₀.heap.objs.size<=c
 hd:X.calm=true->X.A.handled=none
 frames:X.A.frames=some X.stack
 stk:X.stack=X.outer\/(X.stack=X.env::X.outer/\X.env.frame=some X.env.locals)
 exf:∀b∈X.ex,b≠X.env.locals/\∀x c,X.env.cells.lookup x=some c->c≠b
 bs:∀b o,X.base.get? b=some o->X.s₀.heap.get? b=some o/\X.H₀ b=none
 bsz:X.base.objs.size<=X.s₀.heap.objs.size
 noex:∀b o,X.base.get? b=some o->b∉X.ex
 exfs:∀b∈X.ex,b∉X.fs
 funs:X.s₀.heap.FunFrames X.base X.outer
 frf:∀b∈X.fs,X.H₀ b=none
structure NO(X:Cx)(K3:List (Ux×Obj))(σ:List (Option V))(H:Hp)(s:Uy):Prop where
 ok:X.Ok
 os:s.os=X.s₀.os
 bare:AllBare s.gens
 base:Un X.fs X.ex X.H₀ H X.s₀.heap s.heap
 loc:∃m,s.heap.Ns X.env.locals m/\∀(i:Nat)(x:Str)(v:V),X.N[i]?=some x->σ[i]?=some (some v)->GT X.env.scope x->∃u,NY v u/\G4 X.env s.heap m x u
 cell:∀x c,X.env.cells.lookup x=some c->∃v,s.heap.IsCell c v
 free:H X.env.locals=none
 freeC:∀x c,X.env.cells.lookup x=some c->H c=none
 pin:∀p∈X.pn++K3,s.heap.get? p.1=some p.2/\H p.1=none/\p.1≠X.env.locals/\p.1∉X.fs/\∀v,p.2.data≠.cell v
 hok:Oq X.prog X.w H s.heap
 len:σ.length=X.N.length
section
variable{X:Cx}{K3:List (Ux×Obj)}{σ:List (Option V)}{H H':Hp}{s:Uy}{h':Heap}
def Cx.Ok.nofr(ok:X.Ok){o:Obj}(e:X.base.get? b=some o):b∉X.fs:=fun hb=>by
 have:=(ok.funs.mem hb).1;rw[e]at this;cases this
def NO.bs(I:NO X K3 σ H s):∀b o,X.base.get? b=some o->s.heap.get? b=some o/\H b=none:=fun b o e=>
 ⟨I.base.keep b o (I.ok.bs b o e).1 (I.ok.bs b o e).2 (I.ok.nofr e) (I.ok.noex b o e),I.base.free b o (I.ok.bs b o e).1 (I.ok.bs b o e).2 (I.ok.noex b o e)⟩
def NO.bk(I:NO X K3 σ H s):∀b o,X.base.get? b=some o->s.heap.get? b=some o:=fun b o e=>(I.bs b o e).1
def NO.mod(I:NO X K3 σ H s):Mod X.K X.mg X.base:=I.ok.mod
def NO.kIn(I:NO X K3 σ H s):X.K.In s.heap:=I.ok.mod.kin.keeps I.bk
def NO.lt(I:NO X K3 σ H s):X.env.locals<s.heap.objs.size:=let⟨_,hn,_⟩:=I.loc;hn.lt
def NO.sz(I:NO X K3 σ H s):X.s₀.heap.objs.size<=s.heap.objs.size:=J4 I.ok.above (So I.lt)
def NO.nofs(I:NO X K3 σ H s)(h:s.heap.objs.size<=a):a∉X.fs:=fun hb=>by
 obtain⟨_,o,ho,_⟩:=I.ok.funs.mem hb;exact absurd (JW (JD ho) (J4 I.sz h)) (Kk _)
def NO.cne(I:NO X K3 σ H s):∀x c,X.env.cells.lookup x=some c->c≠X.env.locals:=fun x c e z=>by
 obtain⟨v,o,ho,hd⟩:=I.cell x c e;obtain⟨m,⟨o',es,ep,VJ,Yx,_⟩,_⟩:=I.loc;rw[z,VJ]at ho;cases ho;rw[Yx]at hd;cases hd
def NO.funs(I:NO X K3 σ H s):s.heap.FunFrames X.base X.outer:=by
 have all:∀(l:List Env),(∀b∈oH l,b∈X.fs)->X.s₀.heap.FunFrames X.base l->s.heap.FunFrames X.base l:=by
  intro l;induction l with
  |nil=>intro _ _;trivial
  |cons env r ih=>
   intro hs hl;obtain⟨hk,⟨L,o,hf,hn,ho,hd⟩,hr⟩:=hl;have hL:L∈X.fs:=hs L (by unfold oH;rw[KG,hf];exact JF);obtain⟨sl,e⟩:=I.base.slot L o ho (I.ok.frf L hL) hL fun z=>I.ok.exfs L z hL;exact⟨hk,⟨L,_,hf,hn,e,hd⟩,ih (fun b hb=>hs b (by unfold oH;rw[KG,hf];exact JV _ hb)) hr⟩
 exact all X.outer (fun _ hb=>hb) I.ok.funs
def NO.stack(I:NO X K3 σ H s):s.heap.FunFrames X.base X.stack:=by
 rcases I.ok.stk with e|⟨e,hf⟩
 ·rw[e];exact I.funs
 ·rw[e];obtain⟨m,hn,_⟩:=I.loc;refine .cons (by rw[I.ok.kind];decide) hf hn ?_ I.funs;exact Heap.get?_none_of_le (J4 I.ok.bsz I.ok.above)
def NO.stkSub(I:NO X K3 σ H s):∀b∈oH X.stack,b∈X.env.locals::X.fs:=fun b hb=>by
 rcases I.ok.stk with e|⟨e,hf⟩
 ·rw[e]at hb;exact JV _ hb
 ·rw[e]at hb;unfold oH at hb;rw[KG,hf]at hb;exact hb
def NO.stkFree(I:NO X K3 σ H s):∀b∈oH X.stack,H b=none:=fun b hb=>by
 rcases JT.mp (I.stkSub b hb)with e|hb
 ·rw[e];exact I.free
 ·obtain⟨_,o,ho,_⟩:=I.ok.funs.mem hb;exact I.base.free b o ho (I.ok.frf b hb) fun z=>I.ok.exfs b z hb
def NO.step{g':Array GenState}{t':Nat}{d':Drawn}{ch:List Ux}(I:NO X K3 σ H s)
  (WD:∀b∈ch,(b∈X.ex\/X.s₀.heap.objs.size<=b)/\b≠X.env.locals/\(∀x c,X.env.cells.lookup x=some c->c≠b)/\∀p∈X.pn++K3,p.1≠b)
  (keep:∀b o,b≠X.env.locals->b∉X.fs->b∉ch->s.heap.get? b=some o->H b=none->h'.get? b=some o)
  (slot:∀b o,b≠X.env.locals->b∈X.fs->b∉ch->s.heap.get? b=some o->H b=none->∃sl,h'.get? b=some {o with slots:=sl}) (free:∀b o,b∉ch->s.heap.get? b=some o->H b=none->H' b=none)
  (there:∀b o,b∉ch->s.heap.get? b=some o->∃o',h'.get? b=some o')
  (tups:∀b xs,H b=some (.tup xs)->H' b=some (.tup xs)) (frzs:∀b o u,H b=some (.frz o u)->H' b=some (.frz o u)) (tbls:∀b ps,H b=some (.tbl ps)->∃more,H' b=some (.tbl (ps++more)))
  (ns:∀m,s.heap.Ns X.env.locals m->h'.Ns X.env.locals m) (hok:Oq X.prog X.w H' h') (hg:AllBare g') :
  NO X K3 σ H' {s with heap:=h',gens:=g',drawn:=d',toks:=t'}:=by
 have neL:∀b o,X.s₀.heap.get? b=some o->b≠X.env.locals:=fun b o e=>JO (JW (JD e) I.ok.above);have Zb:∀b o,X.s₀.heap.get? b=some o->b∉X.ex->b∉ch:=fun b o e hx hb=>by
  rcases(WD b hb).1 with z|z
  ·exact hx z
  ·exact absurd (JW (JD e) z) (Kk _)
 have Xj:∀x c,X.env.cells.lookup x=some c->∀v,s.heap.IsCell c v->h'.IsCell c v:=fun x c e v⟨o,ho,hd⟩=>by
  have Yd:c∉ch:=fun z=>(WD c z).2.2.1 x c e rfl;by_cases hc:c∈X.fs
  ·obtain⟨sl,q⟩:=slot c o (I.cne x c e) hc Yd ho (I.freeC x c e);exact⟨_,q,hd⟩
  ·exact⟨o,keep c o (I.cne x c e) hc Yd ho (I.freeC x c e),hd⟩
 refine⟨I.ok,I.os,hg,⟨fun b o e n hb hx=>?_,fun b o e n hb hx=>?_,fun b o e n hx=>?_,fun b o e hx=>?_,fun b xs e=>tups b xs (I.base.tups b xs e),fun b o xs e=>frzs b o xs (I.base.frzs b o xs e),fun b ps e=>?_⟩,?_,fun x c e=>?_,?_,fun x c e=>?_,fun p hp=>?_,hok,I.len⟩
 ·exact keep b o (neL b o e) hb (Zb b o e hx) (I.base.keep b o e n hb hx) (I.base.free b o e n hx)
 ·obtain⟨sl,e1⟩:=I.base.slot b o e n hb hx;obtain⟨sl',e2⟩:=slot b _ (neL b o e) hb (Zb b o e hx) e1 (I.base.free b o e n hx);exact⟨sl',e2⟩
 ·obtain⟨o',e1⟩:=I.base.there b o e hx;exact free b o' (Zb b o e hx) e1 (I.base.free b o e n hx)
 ·obtain⟨o',e1⟩:=I.base.there b o e hx;exact there b o' (Zb b o e hx) e1
 ·obtain⟨m1,e1⟩:=I.base.tbls b ps e;obtain⟨m2,e2⟩:=tbls b _ e1;exact⟨m1++m2,by rw[e2,Array.append_assoc]⟩
 ·obtain⟨m,hn,hl⟩:=I.loc;refine⟨m,ns m hn,fun i x v e1 e2 e3=>?_⟩;obtain⟨u,r,l⟩:=hl i x v e1 e2 e3;refine⟨u,r,?_⟩;rcases l with l|⟨k,c,e,z⟩
  ·exact .inl l
  ·exact .inr ⟨k,c,e,Xj x c e _ z⟩
 ·obtain⟨v,z⟩:=I.cell x c e;exact⟨v,Xj x c e v z⟩
 ·obtain⟨m,⟨o,_,_,ho,_⟩,_⟩:=I.loc;exact free _ o (fun z=>(WD _ z).2.1 rfl) ho I.free
 ·obtain⟨v,o,ho,hd⟩:=I.cell x c e;exact free c o (fun z=>(WD c z).2.2.1 x c e rfl) ho (I.freeC x c e)
 ·obtain⟨e,n,ne,nf,d⟩:=I.pin p hp;have Yd:p.1∉ch:=fun z=>(WD p.1 z).2.2.2 p hp rfl;exact⟨keep p.1 p.2 ne nf Yd e n,free p.1 p.2 Yd e n,ne,nf,d⟩
def NO.un{t':Nat}(I:NO X K3 σ H s)(u:Un X.fs [] H H' s.heap h')(hok:Oq X.prog X.w H' h'):NO X K3 σ H' {s with heap:=h',toks:=t'}:=by
 obtain⟨m,⟨o,es,ep,ho,r⟩,_⟩:=id I.loc;obtain⟨sl,hL⟩:=u.any ho I.free (by simp);exact I.step (g':=s.gens) (d':=s.drawn) (ch:=[]) (fun _ z=>nomatch z) (fun b o _ hb _ e n=>u.keep b o e n hb (by simp)) (fun b o _ hb _ e n=>u.slot b o e n hb (by simp)) (fun b o _ e n=>u.free b o e n (by simp)) (fun b o _ e=>u.there b o e (by simp)) u.tups u.frzs u.tbls (fun m' hm=>by
  obtain⟨o',es',ep',VJ,r'⟩:=hm;rw[ho]at VJ;cases VJ;exact⟨_,es',ep',hL,r'⟩) hok I.bare
variable{ch:List Ux}
def NO.call{g':Array GenState}{t':Nat}{d':Drawn}(I:NO X K3 σ H s)(u:Un (oH X.stack) ch H H' s.heap h')(hok:Oq X.prog X.w H' h')(hg:AllBare g')
  (WD:∀b∈ch,(b∈X.ex\/X.s₀.heap.objs.size<=b)/\b≠X.env.locals/\(∀x c,X.env.cells.lookup x=some c->c≠b)/\∀p∈X.pn++K3,p.1≠b) :
  NO X K3 σ H' {s with heap:=h',gens:=g',drawn:=d',toks:=t'}:=by
 obtain⟨m,⟨o,es,ep,ho,r⟩,_⟩:=id I.loc;obtain⟨sl,hL⟩:=u.any ho I.free fun z=>(WD _ z).2.1 rfl;exact I.step (ch:=ch) WD (fun b o hL hb hc e n=>u.keep b o e n (fun z=>(JT.mp (I.stkSub b z)).elim hL hb) hc) (fun b o _ _ hc e n=>u.any e n hc) (fun b o hc e n=>u.free b o e n hc) (fun b o hc e=>u.there b o e hc) u.tups u.frzs u.tbls (fun m' hm=>by
  obtain⟨o',es',ep',VJ,r'⟩:=hm;rw[ho]at VJ;cases VJ;exact⟨_,es',ep',hL,r'⟩) hok hg
def NO.turned{t':Nat}{it:Ux}(I:NO X K3 σ H s)(k:∀b o,b≠it->s.heap.get? b=some o->h'.get? b=some o)(hn:H it=none)(hL:it≠X.env.locals)
  (h1:it∈X.ex\/X.s₀.heap.objs.size<=it) (h2:∀x c,X.env.cells.lookup x=some c->c≠it) (h3:∀p∈X.pn++K3,p.1≠it):NO X K3 σ H {s with heap:=h',toks:=t'}:=by
 have nit:∀b u,H b=some u->b≠it:=fun b u e z=>by rw[z,hn]at e;cases e
 refine I.step (g':=s.gens) (d':=s.drawn) (ch:=[it]) (fun b hb=>?_) (fun b o _ _ hc e _=>k b o (fun z=>hc (by simp[z])) e) (fun b o _ _ hc e _=>⟨o.slots,k b o (fun z=>hc (by simp[z])) e⟩) (fun _ _ _ _ n=>n)
  (fun b o hc e=>⟨o,k b o (fun z=>hc (by simp[z])) e⟩) (fun _ _ e=>e) (fun _ _ _ e=>e) (fun b ps e=>⟨#[],by rw[e];simp⟩) (fun m hm=>?_) (fun b u e=>?_) I.bare
 ·have e:b=it:=by simpa using hb
  subst e;exact⟨h1,hL,h2,h3⟩
 ·obtain⟨o,es,ep,ho,r⟩:=hm;exact⟨o,es,ep,k _ o (R0 hL) ho,r⟩
 ·refine(I.hok b u e).stay (fun c v hc q=>k c v ?_ q) (fun _ q=>q) fun _ _ q=>q;rcases hc with z|z
  ·rw[z];exact nit b u e
  ·exact nit c _ z
def NO.tok(I:NO X K3 σ H s)(t:Nat):NO X K3 σ H {s with toks:=t}:=I.un (h':=s.heap) (t':=t) Un.refl I.hok
def NO.kept{t':Nat}(I:NO X K3 σ H s)(k:∀b u,s.heap.get? b=some u->h'.get? b=some u):NO X K3 σ H {s with heap:=h',toks:=t'}:=I.un (Un.kept k) (I.hok.kept k)
def NO.laid{t':Nat}(I:NO X K3 σ H s)(k:∀b u,s.heap.get? b=some u->h'.get? b=some u)(hp:s.heap.objs.size<=a)(new:N2 X.prog X.w (az H a o) h' a o):
  NO X K3 σ (az H a o) {s with heap:=h',toks:=t'}:=I.un (Un.laid k hp (I.hok.fresh hp)) (I.hok.laid k hp new)
def NO.write{x e:Ux}{o:HO}{t':Nat}(I:NO X K3 σ H s)(mu:EV (H x))(he:e=x\/H e=some (.own x))(k:∀b u,b≠e->s.heap.get? b=some u->h'.get? b=some u)(XW:∃u,h'.get? e=some u)
  (new:N2 X.prog X.w (az H x o) h' x o):NO X K3 σ (az H x o) {s with heap:=h',toks:=t'}:=I.un (Un.write mu he k XW) (I.hok.write mu he k XW new)
def NO.weak{σ':List (Option V)}(I:NO X K3 σ H s)(hl:σ'.length=σ.length)(w:∀(i:Nat)v,σ'[i]?=some (some v)->σ[i]?=some (some v)):NO X K3 σ' H s:=
 ⟨I.ok,I.os,I.bare,I.base,let⟨m,hn,hl'⟩:=I.loc;⟨m,hn,fun i x v e1 e2 e3=>hl' i x v e1 (w i v e2) e3⟩,I.cell,I.free,I.freeC,I.pin,I.hok,hl.trans I.len⟩
def NO.pins_of{pins':List (Ux×Obj)}(I:NO X K3 σ H s)(h:∀p∈pins',s.heap.get? p.1=some p.2/\H p.1=none/\p.1≠X.env.locals/\p.1∉X.fs/\∀v,p.2.data≠.cell v):NO X pins' σ H s:=
 ⟨I.ok,I.os,I.bare,I.base,I.loc,I.cell,I.free,I.freeC,fun p hp=>(Kc.mp hp).elim (fun z=>I.pin p (JZ _ z)) (h p),I.hok,I.len⟩
variable{i j:Nat}
def oI{N:UD}(hN:N.Nodup){x:Str}(a:N[i]?=some x)(b:N[j]?=some x):i=j:=by
 obtain⟨h1,e1⟩:=JA.mp a;obtain⟨h2,e2⟩:=JA.mp b;exact(List.getElem_inj hN).mp (e1.trans e2.symm)
variable{v:V}
def iz{M:Model}{A:UB}{E:Uw->Uy->Prop}{x:Str}{Q:Unit->Uy->Prop}(I:NO X K3 σ H s)(hN:X.N.Nodup)(hi:X.N[i]?=some x)(hx:B9 X.env.scope x)(r:NY v u)
  (h:∀s',NO X K3 (σ.set i (some v)) H s'->(∃a,Heap.SameBut a s.heap s'.heap/\(a=X.env.locals\/X.env.cells.lookup x=some a))->Q () s') (hf:X.fn x=true\/X.env.scope.names.lookup x=some .local:=by first|exact .inl rfl|exact .inr rfl|assumption):wpAny M A (storeName X.env x u) Q E s:=by
 obtain⟨m,hn,hl⟩:=id I.loc;have hcls:(X.env.scope.kind==.class||(X.env.scope.kind==.module&&X.env.locals != X.env.globals))=false:=by rw[I.ok.kind];rfl
 have hiσ:i<σ.length:=by rw[I.len];exact(JA.mp hi).1
 have cne:=I.cne;have V0:∀{a:Ux}{h':Heap},(∃o,s.heap.get? a=some o/\H a=none)->Heap.SameBut a s.heap h'->Oq X.prog X.w H h':=fun{a h'}ha hs b ob e=>by
  obtain⟨_,_,Xh⟩:=ha;refine(I.hok b ob e).stay (fun c w' hc q=>(hs.2 c ?_).trans q) (fun _ q=>q) fun _ _ q=>q;rintro rfl;rcases hc with rfl|hc
  ·rw[Xh]at e;cases e
  ·rw[Xh]at hc;cases hc
 rcases hx with hk|hk
 ·refine wpAny_storeName_local hk hn (fun h' hn' hs=>?_) hcls;obtain⟨oL,_,_,Zk,_⟩:=id hn;refine h _ ⟨I.ok,I.os,I.bare,⟨fun b o e n hb hx=>?_,fun b o e n hb hx=>?_,I.base.free,fun b o e hx=>?_,I.base.tups,I.base.frzs,I.base.tbls⟩,⟨_,hn',fun j y v' e1 e2 e3=>?_⟩,fun y c e=>?_,I.free,I.freeC,fun p hp=>?_,V0 ⟨oL,Zk,I.free⟩ hs,by simpa using I.len⟩ ⟨_,hs,.inl rfl⟩
  ·exact(hs.2 b (JO (JW (JD e) I.ok.above))).trans (I.base.keep b o e n hb hx)
  ·obtain⟨sl,e1⟩:=I.base.slot b o e n hb hx;exact⟨sl,(hs.2 b (JO (JW (JD e) I.ok.above))).trans e1⟩
  ·obtain⟨o',e1⟩:=I.base.there b o e hx;exact⟨o',(hs.2 b (JO (JW (JD e) I.ok.above))).trans e1⟩
  ·by_cases hj:j=i
   ·subst hj;rw[hi]at e1;cases e1;rw[List.getElem?_set_self hiσ]at e2;cases e2;exact⟨u,r,.inl ⟨hk,by simp⟩⟩
   ·rw[List.getElem?_set_ne (R0 hj)]at e2;obtain⟨u',r',q⟩:=hl j y v' e1 e2 e3;refine⟨u',r',?_⟩;rcases q with⟨k,e⟩|⟨k,c,e,z⟩
    ·refine .inl ⟨k,?_⟩;have:y≠x:=fun e=>hj (oI hN e1 (e▸hi));simp[this,e]
    ·exact .inr ⟨k,c,e,z.sameBut hs (cne y c e)⟩
  ·obtain⟨w',z⟩:=I.cell y c e;exact⟨w',z.sameBut hs (cne y c e)⟩
  ·obtain⟨e,n,ne,nf,d⟩:=I.pin p hp;exact⟨(hs.2 p.1 ne).trans e,n,ne,nf,d⟩
 ·have hfn:X.fn x=true:=by
   rcases hf with z|z
   ·exact z
   ·rw[z]at hk;cases hk
  obtain⟨c,hc⟩:=I.ok.has x (.inl hk);obtain⟨w',z⟩:=I.cell x c hc;refine wpAny_storeName_cell I.ok.kind hk hc z (fun h' hc' hs=>?_);obtain⟨oc,hoc,hocd⟩:=id z;refine h {s with heap:=h'} ⟨I.ok,I.os,I.bare,⟨fun b o e n hb hx=>?_,fun b o e n hb hx=>?_,I.base.free,fun b o e hx=>?_,I.base.tups,I.base.frzs,I.base.tbls⟩,⟨m,hn.sameBut hs (R0 (cne x c hc)),fun j y v' e1 e2 e3=>?_⟩,fun y c' e=>?_,I.free,I.freeC,fun p hp=>?_,V0 ⟨oc,hoc,I.freeC x c hc⟩ hs,by simpa using I.len⟩ ⟨c,hs,.inr hc⟩
  ·exact(hs.2 b (JO (JW (JD e) (I.ok.cab x c hfn hc)))).trans (I.base.keep b o e n hb hx)
  ·obtain⟨sl,e1⟩:=I.base.slot b o e n hb hx;exact⟨sl,(hs.2 b (JO (JW (JD e) (I.ok.cab x c hfn hc)))).trans e1⟩
  ·obtain⟨o',e1⟩:=I.base.there b o e hx;exact⟨o',(hs.2 b (JO (JW (JD e) (I.ok.cab x c hfn hc)))).trans e1⟩
  ·by_cases hj:j=i
   ·subst hj;rw[hi]at e1;cases e1;rw[List.getElem?_set_self hiσ]at e2;cases e2;exact⟨u,r,.inr ⟨.inl hk,c,hc,hc'⟩⟩
   ·rw[List.getElem?_set_ne (R0 hj)]at e2;obtain⟨u',r',q⟩:=hl j y v' e1 e2 e3;refine⟨u',r',?_⟩;rcases q with q|⟨k,c',e,z'⟩
    ·exact .inl q
    ·refine .inr ⟨k,c',e,z'.sameBut hs ?_⟩;rintro rfl;exact hj (oI hN e1 (I.ok.inj _ _ _ e hc▸hi))
  ·by_cases V6:c'=c
   ·subst V6;exact⟨_,hc'⟩
   ·obtain⟨w2,z2⟩:=I.cell y c' e;exact⟨w2,z2.sameBut hs V6⟩
  ·obtain⟨e,n,ne,nf,d⟩:=I.pin p hp;refine⟨(hs.2 p.1 ?_).trans e,n,ne,nf,d⟩;intro q;rw[q,hoc]at e;have q':oc=p.2:=JS e;exact d w' (by rw[<-q'];exact hocd)
def jO{M:Model}{A:UB}{E:Uw->Uy->Prop}{x:Str}{Q:Unit->Uy->Prop}(I:NO X K3 σ H s)(hN:X.N.Nodup)(hi:X.N[i]?=some x)(hx:B9 X.env.scope x)(r:NY v u)
  (h:∀s',NO X K3 (σ.set i (some v)) H s'->Q () s') (hf:X.fn x=true\/X.env.scope.names.lookup x=some .local:=by first|exact .inl rfl|exact .inr rfl|assumption):wpAny M A (storeName X.env x u) Q E s:=
 iz I hN hi hx r (fun s' I' _=>h s' I') hf
def NO.call'{s':Uy}(I:NO X K3 σ H s)(ho:s'.os=s.os)(u:Un (oH X.stack) ch H H' s.heap s'.heap)(hok:Oq X.prog X.w H' s'.heap)(hg:AllBare s'.gens)
  (WD:∀b∈ch,(b∈X.ex\/X.s₀.heap.objs.size<=b)/\b≠X.env.locals/\(∀x c,X.env.cells.lookup x=some c->c≠b)/\∀p∈X.pn++K3,p.1≠b):NO X K3 σ H' s':=by
 obtain⟨h',g',d',t',o'⟩:=s';have e:o'=s.os:=ho;subst e;exact I.call (g':=g') (t':=t') (d':=d') u hok hg WD
end
abbrev XK:=Uw->Option Ux->Hp->Prop
abbrev St:=List (Option V)
abbrev VK:=V->Hp->Prop
abbrev TE:=St->Hp->VK->Prop
abbrev TT:=St->Hp->(Bool->Hp->Prop)->Prop
abbrev TA:=St->Hp->(UG->Hp->Prop)->Prop
structure fh where
 nx:St->Hp->Prop
 rt:VK
 bk:St->Hp->Prop:=fun _ _=>False
 ct:St->Hp->Prop:=fun _ _=>False
abbrev TS:=fh->St->Hp->Prop
inductive EP(X:Cx)(K3:List (Ux×Obj))(σ:St)(Q:VK)(u:Uw)(s':Uy):Prop
 |mk(v H':_):NO X K3 σ H' s'->NY v u->Q v H'->EP X K3 σ Q u s'
def TP(X:Cx)(K3:List (Ux×Obj))(σ:St)(Q:Bool->Hp->Prop)(b:Bool)(s':Uy):Prop:=∃H',NO X K3 σ H' s'/\Q b H'
inductive AP(X:Cx)(K3:List (Ux×Obj))(σ:St)(Q:UG->Hp->Prop)(us:List Uw)(s':Uy):Prop
 |mk(vs H':_):NO X K3 σ H' s'->NV vs us->Q vs H'->AP X K3 σ Q us s'
def SP(X:Cx)(K3:List (Ux×Obj))(D:fh)(f:Flow)(s':Uy):Prop:=
 match f with
 |.next=>∃σ' H',NO X K3 σ' H' s'/\D.nx σ' H'
 |.brk=>∃σ' H',NO X K3 σ' H' s'/\D.bk σ' H'
 |.cont=>∃σ' H',NO X K3 σ' H' s'/\D.ct σ' H'
 |.ret u=>∃v σ' H',NO X K3 σ' H' s'/\NY v u/\D.rt v H'
structure PE(X:Cx)(e:Expr)(t:TE):Prop where
 run:∀(K3:List (Ux×Obj))(s:Uy)(σ:St)(H:Hp)(Q:VK),NO X K3 σ H s->t σ H Q->wpAny (model X.prog X.w) X.A (eval e X.env) (EP X K3 σ Q) X.xe s
instance {X:Cx}{e:Expr}{t:TE}:CoeFun (PE X e t) fun _=>∀(K3:List (Ux×Obj))(s:Uy)(σ:St)(H:Hp)(Q:VK),NO X K3 σ H s->t σ H Q->wpAny (model X.prog X.w) X.A (eval e X.env) (EP X K3 σ Q) X.xe s:=⟨PE.run⟩
structure PT(X:Cx)(e:Expr)(t:TT):Prop where
 run:∀(K3:List (Ux×Obj))(s:Uy)(σ:St)(H:Hp)(Q:Bool->Hp->Prop),NO X K3 σ H s->t σ H Q->wpAny (model X.prog X.w) X.A (isTrue e X.env (eval e X.env)) (TP X K3 σ Q) X.xe s
instance {X:Cx}{e:Expr}{t:TT}:CoeFun (PT X e t) fun _=>∀(K3:List (Ux×Obj))(s:Uy)(σ:St)(H:Hp)(Q:Bool->Hp->Prop),NO X K3 σ H s->t σ H Q->wpAny (model X.prog X.w) X.A (isTrue e X.env (eval e X.env)) (TP X K3 σ Q) X.xe s:=⟨PT.run⟩
structure PW(X:Cx)(e:Expr)(t:TT):Prop where
 run:∀(UV:Sem Uw)(K3:List (Ux×Obj))(s:Uy)(σ:St)(H:Hp)(Q:Bool->Hp->Prop),NO X K3 σ H s->t σ H Q->wpAny (model X.prog X.w) X.A (isTrue e X.env UV) (TP X K3 σ Q) X.xe s
instance {X:Cx}{e:Expr}{t:TT}:CoeFun (PW X e t) fun _=>∀(UV:Sem Uw)(K3:List (Ux×Obj))(s:Uy)(σ:St)(H:Hp)(Q:Bool->Hp->Prop),NO X K3 σ H s->t σ H Q->wpAny (model X.prog X.w) X.A (isTrue e X.env UV) (TP X K3 σ Q) X.xe s:=⟨PW.run⟩
variable{e:Expr}{X:Cx}
def PW.pt{t:TT}(h:PW X e t):PT X e t:=⟨fun K3 s σ H Q I q=>h _ K3 s σ H Q I q⟩
structure PA(X:Cx)(es:List Expr)(t:TA):Prop where
 run:∀(pos:Pos)(K3:List (Ux×Obj))(s:Uy)(σ:St)(H:Hp)(Q:UG->Hp->Prop),NO X K3 σ H s->t σ H Q->wpAny (model X.prog X.w) X.A (spliced (backTo pos (starEach es X.env))) (AP X K3 σ Q) X.xe s
instance {X:Cx}{es:List Expr}{t:TA}:CoeFun (PA X es t) fun _=>∀(pos:Pos)(K3:List (Ux×Obj))(s:Uy)(σ:St)(H:Hp)(Q:UG->Hp->Prop),NO X K3 σ H s->t σ H Q->wpAny (model X.prog X.w) X.A (spliced (backTo pos (starEach es X.env))) (AP X K3 σ Q) X.xe s:=⟨PA.run⟩
structure PS(X:Cx)(st:Stmt)(t:TS):Prop where
 run:∀(K3:List (Ux×Obj))(s:Uy)(σ:St)(H:Hp)(D:fh),NO X K3 σ H s->t D σ H->wpAny (model X.prog X.w) X.A (exec st X.env) (SP X K3 D) X.xe s
instance {X:Cx}{st:Stmt}{t:TS}:CoeFun (PS X st t) fun _=>∀(K3:List (Ux×Obj))(s:Uy)(σ:St)(H:Hp)(D:fh),NO X K3 σ H s->t D σ H->wpAny (model X.prog X.w) X.A (exec st X.env) (SP X K3 D) X.xe s:=⟨PS.run⟩
structure Pg(X:Cx)(st:List Stmt)(t:TS):Prop where
 run:∀(K3:List (Ux×Obj))(s:Uy)(σ:St)(H:Hp)(D:fh),NO X K3 σ H s->t D σ H->wpAny (model X.prog X.w) X.A (execs st X.env) (SP X K3 D) X.xe s
instance {X:Cx}{st:List Stmt}{t:TS}:CoeFun (Pg X st t) fun _=>∀(K3:List (Ux×Obj))(s:Uy)(σ:St)(H:Hp)(D:fh),NO X K3 σ H s->t D σ H->wpAny (model X.prog X.w) X.A (execs st X.env) (SP X K3 D) X.xe s:=⟨Pg.run⟩
variable{s:Uy}{E:Uw->Uy->Prop}{A:UB}{M:Model}
def bN{α:Type}{t:Sem α}{Q Q':α->Uy->Prop}(h:wpAny M A t Q E s)(hQ:∀a s,Q a s->Q' a s):wpAny M A t Q' E s:=h_ h hQ fun _ _ x=>x
section
variable{X:Cx}
inductive uf(i:Nat)(σ:St)(H:Hp)(Q:VK):Prop
 |mk(v:_):σ[i]?=some (some v)->Q v H->uf i σ H Q
def tC(v:V):TE:=fun _ H Q=>Q v H
variable{pos:Pos}
def Ca{i:Nat}{x:Str}(hN:X.N[i]?=some x)(hv:GT X.env.scope x)(hd:(x==("__debug__":Str))=false:=by decide)(U8:(x==("__classdict__":Str))=false:=by decide):PE X (.Name x pos) (uf i):=by
 refine⟨?_⟩;intro K3 s σ H Q I h;obtain⟨v,e,h⟩:=h;obtain⟨m,hn,hl⟩:=I.loc;obtain⟨u,r,l⟩:=hl i x v hN e hv;have P':EP X K3 σ Q u s:=⟨v,H,I,r,h⟩;rcases l with⟨hk,hm⟩|⟨hk,c,hc,UO⟩
 ·exact wpAny_Name (wpAny_loadName_local I.ok.kind hk hn hm P') hd
 ·rcases hk with hk|hk
  ·exact wpAny_Name (wpAny_loadName_cell I.ok.kind hk hc UO P') hd
  ·exact wpAny_Name (wpAny_loadName_free I.ok.kind hk hc UO P' U8) hd
def ai{i j pos}:PE X (.Constant (.int i) j pos) (tC (.int i)):=⟨fun _ _ _ H _ I h=>wpAny_Constant_int ⟨.int i,H,I.tok _,⟨_,rfl⟩,h⟩⟩
def cq{b j pos}:PE X (.Constant (.bool b) j pos) (tC (.bl b)):=⟨fun _ _ _ H _ I h=>Constant_bool ⟨.bl b,H,I,rfl,h⟩⟩
def cN{j pos}:PE X (.Constant .none j pos) (tC .non):=⟨fun _ _ _ H _ I h=>Constant_none ⟨.non,H,I,rfl,h⟩⟩
def aj{x j pos}:PE X (.Constant (.str x) j pos) (tC (.str x)):=⟨fun _ _ _ H _ I h=>Calls.Constant_str ⟨.str x,H,I.tok _,⟨_,rfl⟩,h⟩⟩
def Gl(X:Cx)(x:Str):Prop:=X.env.kindOf x=some .globalImplicit
variable{Q:Uw->Uy->Prop}{σ:St}{K3:List (Ux×Obj)}
def gT{E:Uw->Uy->Prop}{x:Str}{pos:Pos}(I:NO X K3 σ H s)(hg:Gl X x)(hm:X.mg x=some u)(h:Q u s)
  (hd:(x==("__debug__":Str))=false:=by decide):wpAny (model X.prog X.w) X.A (eval (.Name x pos) X.env) Q E s:=
 Calls.Name_function_global I.ok.kind hg (Calls.loadGlobal_global (by rw[I.ok.glob];exact I.mod.glob.keeps I.bk) hm h) hd
def fj{E:Uw->Uy->Prop}{x:Str}{pos:Pos}(I:NO X K3 σ H s)(hg:Gl X x)(hm:X.mg x=none)(hv:bootBuiltins x=some u)(h:Q u s)
  (hn:x≠"__name__":=by decide) (hd:(x==("__debug__":Str))=false:=by decide):wpAny (model X.prog X.w) X.A (eval (.Name x pos) X.env) Q E s:=by
 obtain⟨mb,h1,h2⟩:=I.mod.blt;exact Calls.Name_function_global I.ok.kind hg (Calls.loadGlobal_builtin (by rw[I.ok.glob];exact I.mod.glob.keeps I.bk) hm (by rw[I.ok.blt];exact h1.keeps I.bk) ((h2 x hn).trans hv) h) hd
variable{v:V}
def be{x:Str}(hg:Gl X x)(hm:X.mg x=some u)(r:NY v u)(hd:(x==("__debug__":Str))=false:=by decide):PE X (.Name x pos) (tC v):=
 ⟨fun _ _ _ H _ I h=>gT I hg hm ⟨v,H,I,r,h⟩ hd⟩
def zq{x:Str}(hg:Gl X x)(hm:X.mg x=none)(hv:bootBuiltins x=some u)(r:NY v u)(hn:x≠"__name__":=by decide)(hd:(x==("__debug__":Str))=false:=by decide):PE X (.Name x pos) (tC v):=
 ⟨fun _ _ _ H _ I h=>fj I hg hm hv ⟨v,H,I,r,h⟩ hn hd⟩
variable{a b:Expr}{ta tb:TE}{pos:Pos}
def PC(X:Cx)(op:CmpOp)(a b:Expr)(t:TE):Prop:=
 ∀(K3:List (Ux×Obj))(s:Uy)(σ:St)(H:Hp)(Q:VK),NO X K3 σ H s->t σ H Q->
  wpAny (model X.prog X.w) X.A (eval a X.env) (fun v s₁=>wpAny (model X.prog X.w) X.A (eval b X.env) (fun u s₂=>wpAny (model X.prog X.w) X.A (compareOp op v u) (EP X K3 σ Q) X.xe s₂) X.xe s₁) X.xe s
inductive IV(Q:Bool->Hp->Prop)(x:V)(H1:Hp):Prop
 |mk(c:_):x=.bl c->Q c H1->IV Q x H1
def tB(t:TE):TT:=fun σ H Q=>t σ H fun x H1=>IV Q x H1
def lV{op:CmpOp}{t:TE}(h:PC X op a b t)(h1:behindInMarks op b=false:=by first|exact nobehind _ zd zd|rfl):PT X (.Compare a [op] [b] pos) (tB t):=by
 refine⟨?_⟩;intro K3 s σ H Q I hw;refine wpAny_isTrue_Compare1 (bN (h K3 s σ H _ I hw) fun v s1 h1=>bN h1 fun u s2 h2=>bN h2 fun c s3 hZZ=>?_) h1;obtain⟨x,H1,I1,r1,q1⟩:=hZZ;obtain⟨d,rfl,q⟩:=q1;cases r1;exact p_ ⟨H1,I1,q⟩
def bE{t:TE}(h:PE X e t)(he:∀UV,isTrue e X.env UV=(do let v <-UV;standAt e.pos;holding [v] (truthy v)):=by intro _;rfl):PT X e (tB t):=by
 refine⟨?_⟩;intro K3 s σ H Q I hw;refine isTrue_plain (bN (h K3 s σ H _ I hw) fun v s1 hZZ=>?_) (he _);obtain⟨x,H1,I1,r1,q1⟩:=hZZ;obtain⟨d,rfl,q⟩:=q1;cases r1;exact p_ ⟨H1,I1,q⟩
variable{tA Y7:TT}{A':List Expr}
def G5(t u:TT):TT:=fun σ H Q=>t σ H fun c H1=>if c=true then u σ H1 Q else Q false H1
def Jl(t u:TT):TT:=fun σ H Q=>t σ H fun c H1=>if c=true then Q true H1 else u σ H1 Q
def G6(t:TT):TT:=fun σ H Q=>t σ H fun c H1=>Q (!c) H1
def cb(ha:PT X a tA):PW X (.BoolOp .And [a] pos) tA:=by
 refine⟨?_⟩;intro wh K3 s σ H Q I h;refine isTrue_and (bN (ha K3 s σ H Q I h) fun c s1 e=>?_);cases c with
 |true=>exact isTrue_and_nil e
 |false=>exact e
def cX(ha:PT X a tA):PW X (.BoolOp .Or [a] pos) tA:=by
 refine⟨?_⟩;intro wh K3 s σ H Q I h;refine isTrue_or (bN (ha K3 s σ H Q I h) fun c s1 e=>?_);cases c with
 |false=>exact isTrue_or_nil e
 |true=>exact e
def cr(ha:PT X a tA)(hb:PW X (.BoolOp .And (b::A') pos) Y7):PW X (.BoolOp .And (a::b::A') pos) (G5 tA Y7):=by
 refine⟨?_⟩;intro wh K3 s σ H Q I h;refine isTrue_and (bN (ha K3 s σ H _ I h) fun c s1⟨H1,I1,q1⟩=>?_);cases c with
 |true=>exact hb wh K3 s1 σ H1 Q I1 q1
 |false=>exact⟨H1,I1,q1⟩
def de(ha:PT X a tA)(hb:PW X (.BoolOp .Or (b::A') pos) Y7):PW X (.BoolOp .Or (a::b::A') pos) (Jl tA Y7):=by
 refine⟨?_⟩;intro wh K3 s σ H Q I h;refine isTrue_or (bN (ha K3 s σ H _ I h) fun c s1⟨H1,I1,q1⟩=>?_);cases c with
 |true=>exact⟨H1,I1,q1⟩
 |false=>exact hb wh K3 s1 σ H1 Q I1 q1
def bP(ha:PT X a tA):PT X (.UnaryOp .Not a pos) (G6 tA):=by
 refine⟨?_⟩;intro K3 s σ H Q I h;exact isTrue_not (ha K3 s σ H (fun c H1=>Q (!c) H1) I h)
inductive vR(tb:TE)(σ:St)(Q:VK)(x:V)(H1:Hp):Prop
 |mk(c:_):x=.bl c->(if c=true then tb σ H1 Q else Q (.bl false) H1)->vR tb σ Q x H1
def EY(ta tb:TE):TE:=fun σ H Q=>ta σ H fun x H1=>vR tb σ Q x H1
inductive Bb(tb:TE)(σ:St)(Q:VK)(x:V)(H1:Hp):Prop
 |mk(c:_):x=.bl c->(if c=true then Q (.bl true) H1 else tb σ H1 Q)->Bb tb σ Q x H1
def G7(ta tb:TE):TE:=fun σ H Q=>ta σ H fun x H1=>Bb tb σ Q x H1
inductive vS(Q:VK)(x:V)(H1:Hp):Prop
 |mk(c:_):x=.bl c->Q (.bl (!c)) H1->vS Q x H1
def EZ(ta:TE):TE:=fun σ H Q=>ta σ H fun x H1=>vS Q x H1
def cO{op}{t:TE}(h:PE X a t):PE X (.BoolOp op [a] pos) t:=⟨fun K3 s σ H Q I hw=>BoolOp_one (h K3 s σ H Q I hw)⟩
def cP(ha:PE X a ta)(hb:PE X (.BoolOp .And (b::A') pos) tb):PE X (.BoolOp .And (a::b::A') pos) (EY ta tb):=by
 refine⟨?_⟩;intro K3 s σ H Q I h;refine BoolOp_and (bN (ha K3 s σ H _ I h) fun v s1 hZZ=>?_);obtain⟨x,H1,I1,r1,q1⟩:=hZZ;obtain⟨c,rfl,q1⟩:=q1;cases r1;refine p_ ?_;cases c with
 |true=>exact hb K3 s1 σ H1 Q I1 q1
 |false=>exact⟨.bl false,H1,I1,rfl,q1⟩
def E1(ha:PE X a ta)(hb:PE X (.BoolOp .Or (b::A') pos) tb):PE X (.BoolOp .Or (a::b::A') pos) (G7 ta tb):=by
 refine⟨?_⟩;intro K3 s σ H Q I h;refine BoolOp_or (bN (ha K3 s σ H _ I h) fun v s1 hZZ=>?_);obtain⟨x,H1,I1,r1,q1⟩:=hZZ;obtain⟨c,rfl,q1⟩:=q1;cases r1;refine p_ ?_;cases c with
 |false=>exact hb K3 s1 σ H1 Q I1 q1
 |true=>exact⟨.bl true,H1,I1,rfl,q1⟩
def vT(ha:PE X a ta):PE X (.UnaryOp .Not a pos) (EZ ta):=by
 refine⟨?_⟩;intro K3 s σ H Q I h;refine UnaryOp_ (bN (ha K3 s σ H _ I h) fun v s1 hZZ=>?_);obtain⟨x,H1,I1,r1,q1⟩:=hZZ;obtain⟨c,rfl,q1⟩:=q1;cases r1;exact not_of (p_ ⟨.bl (!c),H1,I1,rfl,q1⟩)
def Jm(t:TT)(ta tb:TE):TE:=fun σ H Q=>t σ H fun c H1=>if c=true then ta σ H1 Q else tb σ H1 Q
def bx{c:Expr}(hc:PT X c tA)(ha:PE X a ta)(hb:PE X b tb):PE X (.IfExp c a b pos) (Jm tA ta tb):=by
 refine⟨?_⟩;intro K3 s σ H Q I h;refine wpAny_IfExp (bN (hc K3 s σ H _ I h) fun d s1⟨H1,I1,q1⟩=>?_);cases d with
 |true=>exact ha K3 s1 σ H1 Q I1 q1
 |false=>exact hb K3 s1 σ H1 Q I1 q1
end
def NQ(K:ZF)(H:Hp)(a:Ux)(xs:UG):Prop:=
 Rd H a (.lst xs) ∨
  ∃(o:Obj)(f':Array Uw)(n:Nat),K.lookup a=some o/\o.cls=.type "list"/\o.dict=none/\o.data=.seq f' n/\f'.size<=sizeLine/\NV xs f'.toList
def NL(K:ZF)(H:Hp)(a:Ux)(xs:UG):Prop:=
 Rd H a (.tup xs) ∨
  ∃(o:Obj)(f':Array Uw)(n:Nat),K.lookup a=some o/\o.cls=.type "tuple"/\o.data=.seq f' n/\f'.size<=sizeLine/\NV xs f'.toList
def G8:Uw->Option V
 |.none=>some .non
 |.bool b=>some (.bl b)
 |.int i _=>some (.int i)
 |.str x _=>some (.str x)
 |.bytes b _=>some (.byt b)
 |.float b _=>some (.flt b)
 |.ref a=>some (.ref a)
 |.type n=>some (.ty n)
 |_=>none
def NY.abs(r:NY x u):G8 u=some x:=by
 cases x with
 |non=>cases r;rfl
 |bl _=>cases r;rfl
 |int _=>obtain⟨t,rfl⟩:=r;rfl
 |str _=>obtain⟨t,rfl⟩:=r;rfl
 |byt _=>obtain⟨t,rfl⟩:=r;rfl
 |flt _=>obtain⟨t,rfl⟩:=r;rfl
 |ref _=>cases r;rfl
 |ty _=>cases r;rfl
variable{y:V}
def NY.inj(r:NY x u)(q:NY y u):x=y:=JS (r.abs.symm.trans q.abs)
def NV.inj:∀{xs ys:UG}{us:List Uw},NV xs us->NV ys us->xs=ys
 |_,_,_,.nil,.nil=>rfl
 |_,_,_,.cons r t,.cons r' t'=>by rw[r.inj r',NV.inj t t']
section
variable{X:Cx}{K3:List (Ux×Obj)}{σ:St}{H:Hp}{s:Uy}{a:Ux}{xs ys:UG}
variable{K:ZF}
def NQ.of(h:H a=some (.lst xs)):NQ K H a xs:=.inl (.inl h)
def NL.of(h:H a=some (.tup xs)):NL K H a xs:=.inl (.inl h)
def NO.list(I:NO X K3 σ H s)(h:NQ X.K H a xs):∃f':List Uw,NV xs f'/\PlainL s.heap a f'.toArray/\xs.length<=sizeLine:=by
 rcases h with h|⟨o,f',n,hk,hc,hd,hs,hz,r⟩
 ·obtain⟨z,f',n,r,e⟩:=h.ok I.hok;exact⟨f',r,⟨_,n,e,rfl,rfl,rfl⟩,z⟩
 ·refine⟨f'.toList,r,⟨o,n,I.kIn a o hk,hc,hd,by simpa using hs⟩,?_⟩;have e:=r.length;simp only[Kt]at e;lia
def NO.tuple(I:NO X K3 σ H s)(h:NL X.K H a xs):∃f':List Uw,NV xs f'/\IsTup s.heap a f'.toArray/\xs.length<=sizeLine:=by
 rcases h with h|⟨o,f',n,hk,hc,hs,hz,r⟩
 ·obtain⟨z,f',r,p⟩:=h.ok I.hok;exact⟨f',r,p.up,z⟩
 ·refine⟨f'.toList,r,⟨o,I.kIn a o hk,hc,n,by simpa using hs⟩,?_⟩;have e:=r.length;simp only[Kt]at e;lia
def NO.list_inj(I:NO X K3 σ H s)(h:NQ X.K H a xs)(h':NQ X.K H a ys):xs=ys:=by
 obtain⟨f',r,⟨o,n,e,_,_,d⟩,_⟩:=I.list h;obtain⟨its',r',⟨o',n',e',_,_,d'⟩,_⟩:=I.list h';rw[e]at e';cases e';rw[d]at d';injection d' with d1 _;have:f'=its':=by simpa using i_ Array.toList d1
 subst this;exact r.inj r'
def NO.tuple_inj(I:NO X K3 σ H s)(h:NL X.K H a xs)(h':NL X.K H a ys):xs=ys:=by
 obtain⟨f',r,⟨o,e,_,n,d⟩,_⟩:=I.tuple h;obtain⟨its',r',⟨o',e',_,n',d'⟩,_⟩:=I.tuple h';rw[e]at e';cases e';rw[d]at d';injection d' with d1 _;have:f'=its':=by simpa using i_ Array.toList d1
 subst this;exact r.inj r'
end
abbrev Cx.wish(X:Cx)(E:Uw->Uy->Prop):Cx:={X with xe:=E}
abbrev Cx.nox(X:Cx):Cx:=X.wish fun _ _=>False
def Cx.Ok.wish(ok:X.Ok)(E:Uw->Uy->Prop):(X.wish E).Ok:=
 ⟨ok.mod,ok.kind,ok.glob,ok.blt,ok.above,ok.inj,ok.has,ok.cab,ok.hd,ok.frames,ok.stk,ok.exf,ok.bs,ok.bsz,ok.noex,ok.exfs,ok.funs,ok.frf⟩
def Cx.Ok.unwish(ok:(X.wish E).Ok):X.Ok:=
 ⟨ok.mod,ok.kind,ok.glob,ok.blt,ok.above,ok.inj,ok.has,ok.cab,ok.hd,ok.frames,ok.stk,ok.exf,ok.bs,ok.bsz,ok.noex,ok.exfs,ok.funs,ok.frf⟩
section
variable{X:Cx}{K3:List (Ux×Obj)}{σ:St}{H:Hp}{s:Uy}{E:Uw->Uy->Prop}
def NO.wish(I:NO X K3 σ H s)(E:Uw->Uy->Prop):NO (X.wish E) K3 σ H s:=⟨I.ok.wish E,I.os,I.bare,I.base,I.loc,I.cell,I.free,I.freeC,I.pin,I.hok,I.len⟩
def NO.unwish(I:NO (X.wish E) K3 σ H s):NO X K3 σ H s:=⟨I.ok.unwish,I.os,I.bare,I.base,I.loc,I.cell,I.free,I.freeC,I.pin,I.hok,I.len⟩
def SP.unwish{D:fh}{f:Flow}{s':Uy}(h:SP (X.wish E) K3 D f s'):SP X K3 D f s':=by
 cases f with
 |next=>obtain⟨σ',H',I,q⟩:=h;exact⟨σ',H',I.unwish,q⟩
 |brk=>obtain⟨σ',H',I,q⟩:=h;exact⟨σ',H',I.unwish,q⟩
 |cont=>obtain⟨σ',H',I,q⟩:=h;exact⟨σ',H',I.unwish,q⟩
 |ret u=>obtain⟨v,σ',H',I,r,q⟩:=h;exact⟨v,σ',H',I.unwish,r,q⟩
def Pg.nox{st:List Stmt}{t:TS}(h:Pg X.nox st t):Pg X st t:=⟨fun K3 s σ H D I hw=>
 h_ (h K3 s σ H D (I.wish _) hw) (fun _ _ q=>q.unwish) fun _ _ z=>False.elim z⟩
end
section
variable{X:Cx}{st:Stmt}{A':List Stmt}{t u:TS}{e:Expr}{te:TE}{pos:Pos}
def E2:TS:=fun D σ H=>D.nx σ H
def G9(t u:TS):TS:=fun D σ H=>t {D with nx:=u D} σ H
def aw:Pg X [] E2:=⟨fun _ _ σ H _ I h=>Sh ⟨σ,H,I,h⟩⟩
def ae(h1:PS X st t)(h2:Pg X A' u):Pg X (st::A') (G9 t u):=by
 refine⟨?_⟩;intro K3 s σ H D I h;refine wpAny_execs_cons (bN (h1 K3 s σ H {D with nx:=u D} I h) fun f s1 q=>?_);cases f with
 |next=>
  obtain⟨σ',H',I',q⟩:=q;exact h2 K3 s1 σ' H' D I' q
 |ret v=>exact q
 |brk=>exact q
 |cont=>exact q
def ag(h1:PS X st t):Pg X [st] t:=by
 refine⟨?_⟩;intro K3 s σ H D I h;refine wpAny_execs_cons (bN (h1 K3 s σ H D I h) fun f s1 q=>?_);cases f with
 |next=>exact Sh q
 |ret v=>exact q
 |brk=>exact q
 |cont=>exact q
def NO.quiet{K3:List (Ux×Obj)}{σ:St}(I:NO X K3 σ H s):interactive X.env=false:=by simp[interactive,I.ok.kind]
def E3(te:TE):TS:=fun D σ H=>te σ H fun _ H1=>D.nx σ H1
def aQ(he:PE X e te)(hs:swapsWith e none pos.line X.env=pure false:=by rfl):PS X (.Expr e pos) (E3 te):=by
 refine⟨?_⟩;intro K3 s σ H D I h;exact wpAny_Expr_any (bN (he K3 s σ H _ I h) fun v s1⟨x,H1,I1,r1,q1⟩=>⟨σ,H1,I1,q1⟩) I.quiet hs
def E4(te:TE):TS:=fun D σ H=>te σ H D.rt
def am(he:PE X e te):PS X (.Return (some e) pos) (E4 te):=by
 refine⟨?_⟩;intro K3 s σ H D I h;exact wpAny_Return_some (bN (he K3 s σ H _ I h) fun v s1⟨x,H1,I1,r1,q1⟩=>⟨x,σ,H1,I1,r1,q1⟩)
def Hj(c:TT)(t u:TS):TS:=fun D σ H=>c σ H fun b H1=>if b=true then t D σ H1 else u D σ H1
def aM{c:Expr}{a b:List Stmt}{tc:TT}(hc:PT X c tc)(ha:Pg X a t)(hb:Pg X b u):PS X (.If c a b pos) (Hj tc t u):=by
 refine⟨?_⟩;intro K3 s σ H D I h;refine wpAny_If (bN (hc K3 s σ H _ I h) fun d s1⟨H1,I1,q1⟩=>?_);cases d with
 |true=>exact ha K3 s1 σ H1 D I1 q1
 |false=>exact hb K3 s1 σ H1 D I1 q1
def vU:TS:=fun _ _ _=>False
def aU:PS X st vU:=⟨fun _ _ _ _ _ _ h=>h.elim⟩
def uh{sts:List Stmt}:Pg X sts vU:=⟨fun _ _ _ _ _ _ h=>h.elim⟩
end
abbrev TG:=V->St->Hp->(St->Hp->Prop)->Prop
abbrev EJ:=UG->St->Hp->(St->Hp->Prop)->Prop
def PG(X:Cx)(XM:Expr)(t:TG):Prop:=
 ∀(K3:List (Ux×Obj))(s:Uy)(σ:St)(H:Hp)(v:V)(u:Uw)(Q:St->Hp->Prop),NO X K3 σ H s->NY v u->t v σ H Q->
  wpAny (model X.prog X.w) X.A (assign XM X.env u) (fun _ s'=>∃σ' H',NO X K3 σ' H' s'/\Q σ' H') X.xe s
def E5(X:Cx)(ts:List Expr)(t:EJ):Prop:=
 ∀(K3:List (Ux×Obj))(s:Uy)(σ:St)(H:Hp)(vs:UG)(us:List Uw)(Q:St->Hp->Prop),NO X K3 σ H s->NV vs us->t vs σ H Q->
  wpAny (model X.prog X.w) X.A (assignInOrder ((assignEach ts X.env).map (·.2)) us) (fun _ s'=>∃σ' H',NO X K3 σ' H' s'/\Q σ' H') X.xe s
abbrev Cb:=V->V->V->Hp->(Hp->Prop)->Prop
def E6(X:Cx)(t:Cb):Prop:=
 ∀(K3:List (Ux×Obj))(s:Uy)(σ:St)(H:Hp)(o i v:V)(ov iv u:Uw)(Q:Hp->Prop),NO X K3 σ H s->NY o ov->NY i iv->NY v u->t o i v H Q->
  wpAny (model X.prog X.w) X.A (setItem ov iv u) (fun _ s'=>∃H',NO X K3 σ H' s'/\Q H') X.xe s
abbrev Hk:=V->V->Hp->VK->Prop
def Hl(X:Cx)(op:Operator)(t:Hk):Prop:=
 ∀(K3:List (Ux×Obj))(s:Uy)(σ:St)(H:Hp)(x y:V)(v u:Uw)(Q:VK),NO X K3 σ H s->NY x v->NY y u->t x y H Q->
  wpAny (model X.prog X.w) X.A (inplaceOp op v u) (EP X K3 σ Q) X.xe s
section
variable{X:Cx}{pos:Pos}
def su(i:Nat):TG:=fun v σ H Q=>Q (σ.set i (some v)) H
variable{i:Nat}
def ju{x:Str}(hN:X.N.Nodup)(hi:X.N[i]?=some x)(hx:B9 X.env.scope x)(hf:X.fn x=true\/X.env.scope.names.lookup x=some .local:=by first|exact .inl rfl|exact .inr rfl|assumption):PG X (.Name x pos) (su i):=by
 intro K3 s σ H v u Q I r h;exact SD (jO I hN hi hx r (fun s' I'=>⟨_,H,I',h⟩) hf)
def bM{i:Nat}{x:Str}(hN:X.N.Nodup)(hi:X.N[i]?=some x:=by rfl)(hx:B9 X.env.scope x:=by exact Or.inl rfl)(hf:X.fn x=true\/X.env.scope.names.lookup x=some .local:=by first|exact .inl rfl|exact .inr rfl|assumption):PG X (.Name x pos) (su i):=ju hN hi hx hf
def Hm:EJ:=fun vs σ H Q=>vs=[]/\Q σ H
inductive Bc(t:TG)(u:EJ)(vs:UG)(σ:St)(H:Hp)(Q:St->Hp->Prop):Prop
 |mk(v r:_):vs=v::r->(t v σ H fun σ' H'=>u r σ' H' Q)->Bc t u vs σ H Q
def bi:E5 X [] Hm:=by
 intro K3 s σ H vs us Q I r h;obtain⟨e,h⟩:=h;subst e;cases r;exact assignInOrder_nil ⟨σ,H,I,h⟩
variable{es:List Expr}
def aq{t:TG}{u:EJ}(h1:PG X e t)(h2:E5 X es u)
  (hs:(assignEach (e::es) X.env).map (·.2)=assign e X.env::(assignEach es X.env).map (·.2):=by rfl):E5 X (e::es) (Bc t u):=by
 intro K3 s σ H vs us Q I r h;obtain⟨v,vr,e1,h⟩:=h;subst e1;cases r with
 |cons r rr=>
  rw[hs];refine assignInOrder_cons (bN (h1 K3 s σ H _ _ _ I r h) fun _ s1⟨σ1,H1,I1,q1⟩=>?_);exact h2 K3 s1 σ1 H1 _ _ Q I1 rr q1
inductive Cd(K:ZF)(n:Nat)(t:EJ)(v:V)(σ:St)(H:Hp)(Q:St->Hp->Prop):Prop
 |mk(a xs:_):v=.ref a->NL K H a xs->xs.length=n->t xs σ H Q->Cd K n t v σ H Q
def bT{k:Nat}{t:EJ}{n:Nat}(hc:X.calm=true)(h:E5 X es t)
  (hn:(assignEach es X.env).length=n:=by rfl) (Wb:(assignEach es X.env).findIdx? (·.1)=none:=by rfl):PG X (.Tuple es k pos) (Cd X.K n t):=by
 intro K3 s σ H v u Q I r hw;obtain⟨a,xs,e1,hq,hl,hw⟩:=hw;subst e1;cases r;obtain⟨f',rv,ht,hz⟩:=I.tuple hq;refine assign_Tuple_tuple (I.ok.hd hc) ht (by simp[hn,<-hl,rv.length]) Wb fun h' hx=>?_;have I1:NO X K3 σ H {s with heap:=h'}:=I.kept (t':=s.toks) fun b o e=>hx b o (JO (JD e)) e;exact h K3 _ σ H xs _ Q I1 (by simpa using rv) hw
def Hn(to ti:TE)(t:Cb):TG:=fun v σ H Q=>to σ H fun o H1=>ti σ H1 fun i H2=>t o i v H2 fun H3=>Q σ H3
def jP{o i:Expr}{to ti:TE}{t:Cb}(ho:PE X o to)(hi:PE X i ti)(hs:E6 X t)
  (ha:∀v,assign (.Subscript o i pos) X.env v=(do
   let ov <-holding [v] (eval o X.env)
   let iv <-holding [v,ov] (eval i X.env)
   standAt pos
   holding [v,ov,iv] (setItem ov iv v)
   release [v,ov,iv] []):=by intro _;rfl):PG X (.Subscript o i pos) (Hn to ti t):=by
 intro K3 s σ H v u Q I r h;rw[ha];refine a_ (s_ (bN (ho K3 s σ H _ I h) fun ov s1 hZZ=>?_));obtain⟨x,H1,I1,r1,q1⟩:=hZZ;refine a_ (s_ (bN (hi K3 s1 σ H1 _ I1 q1) fun iv s2 hZZ=>?_));obtain⟨y,H2,I2,r2,q2⟩:=hZZ;refine a_ (o_ (a_ (s_ (bN (hs K3 s2 σ H2 x y v ov iv u _ I2 r1 r2 r q2) fun _ s3⟨H3,I3,q3⟩=>?_))));exact wpAny_release ⟨σ,H3,I3,q3⟩
def Ce(te:TE)(g:TG):TS:=fun D σ H=>te σ H fun x H1=>g x σ H1 D.nx
variable{te:TE}
def cu{tg e:Expr}{g:TG}(he:PE X e te)(hg:PG X tg g)(hs:swapsWithSole [tg] e pos.line X.env=pure false:=by rfl)(hw:swappedStores [tg] e X.env=pure none:=by rfl)
  (h1:(assignEach [tg] X.env).map (·.2)=[assign tg X.env]:=by rfl):PS X (.Assign [tg] e pos) (Ce te g):=by
 refine⟨?_⟩;intro K3 s σ H D I h;refine wpAny_Assign_stores (bN (he K3 s σ H _ I h) fun v s1 hZZ=>?_) hs hw;obtain⟨x,H1,I1,r1,q1⟩:=hZZ;rw[h1];exact bN (hg K3 s1 σ H1 x v _ I1 r1 q1) fun _ s2 q=>q
def iA{x:Str}{U1:Pos}(hN:X.N.Nodup)(hi:X.N[i]?=some x)(hx:B9 X.env.scope x)(he:PE X e te)(hs:swapsWith e (some (.Name x U1)) pos.line X.env=pure false:=by rfl)(hf:X.fn x=true\/X.env.scope.names.lookup x=some .local:=by first|exact .inl rfl|exact .inr rfl|assumption):
  PS X (.Assign [.Name x U1] e pos) (Ce te (su i)):=by
 refine⟨?_⟩;intro K3 s σ H D I h;refine wpAny_Assign_Name (bN (he K3 s σ H _ I h) fun v s1 hZZ=>?_) hs;obtain⟨y,H1,I1,r1,q1⟩:=hZZ;exact jO I1 hN hi hx r1 (fun s2 I2=>⟨_,H1,I2,q1⟩) hf
def bS{i:Nat}{x:Str}{e:Expr}{te:TE}{U1:Pos}(hN:X.N.Nodup)(he:PE X e te)(hi:X.N[i]?=some x:=by rfl)(hx:B9 X.env.scope x:=by exact Or.inl rfl)(hs:swapsWith e (some (.Name x U1)) pos.line X.env=pure false:=by rfl)(hf:X.fn x=true\/X.env.scope.names.lookup x=some .local:=by first|exact .inl rfl|exact .inr rfl|assumption):PS X (.Assign [.Name x U1] e pos) (Ce te (su i)):=iA hN hi hx he hs hf
inductive E7(i:Nat)(te:TE)(ti:Hk)(D:fh)(σ:St)(H:Hp):Prop
 |mk(x:_):σ[i]?=some (some x)->(te σ H fun y H1=>ti x y H1 fun z H2=>D.nx (σ.set i (some z)) H2)->E7 i te ti D σ H
def lW{x:Str}{op:Operator}{ti:Hk}{U1:Pos}(hN:X.N.Nodup)(hi:X.N[i]?=some x)(hx:B9 X.env.scope x)(he:PE X e te)(ho:Hl X op ti)(hf:X.fn x=true\/X.env.scope.names.lookup x=some .local:=by first|exact .inl rfl|exact .inr rfl|assumption):
  PS X (.AugAssign (.Name x U1) op e pos) (E7 i te ti):=by
 refine⟨?_⟩;intro K3 s σ H D I h;obtain⟨v,e1,h⟩:=h;obtain⟨m,hn,hl⟩:=I.loc;have vis:GT X.env.scope x:=by rcases hx with k|k;exact .inl k;exact .inr (.inl k)
 obtain⟨u,r,l⟩:=hl i x v hi e1 vis;refine wpAny_AugAssign_Name ?_;have go:wpAny (model X.prog X.w) X.A (eval e X.env) (fun w s₂=>wpAny (model X.prog X.w) X.A (inplaceOp op u w) (fun r s₃=>wpAny (model X.prog X.w) X.A (storeName X.env x r) (fun _=>SP X K3 D .next) X.xe s₃) X.xe s₂) X.xe s:=by
  refine bN (he K3 s σ H _ I h) fun w s1 hZZ=>?_;obtain⟨y,H1,I1,r1,q1⟩:=hZZ;refine bN (ho K3 s1 σ H1 v y u w _ I1 r r1 q1) fun z s2 hZZ=>?_;obtain⟨zv,H2,I2,r2,q2⟩:=hZZ;exact jO I2 hN hi hx r2 (fun s3 I3=>⟨_,H2,I3,q2⟩) hf
 rcases l with⟨hk,hm⟩|⟨hk,c,hc,UO⟩
 ·exact wpAny_loadName_local I.ok.kind hk hn hm go
 ·rcases hk with hk|hk
  ·exact wpAny_loadName_cell I.ok.kind hk hc UO go
  ·rcases hx with k|k
   ·have:X.env.scope.names.lookup x=some .free:=hk;rw[k]at this;cases this
   ·have:X.env.scope.names.lookup x=some .free:=hk;rw[k]at this;cases this
inductive IX(f:Int->Int->Int)(x:V)(y:V)(H:Hp)(Q:VK):Prop
 |mk(i j:_):x=.int i->y=.int j->Q (.int (f i j)) H->IX f x y H Q
def pY:Hl X .Add (IX fun i j=>i+j):=by
 intro K3 s σ H x y v u Q I r1 r2 h;obtain⟨i,j,e1,e2,q⟩:=h;subst e1;subst e2;obtain⟨t,rfl⟩:=r1;obtain⟨t',rfl⟩:=r2;exact iadd_int ⟨.int _,H,I.tok _,⟨_,rfl⟩,q⟩
end
section
variable{X:Cx}{pos:Pos}
inductive vV(c:TT)(tb:TS)(D:fh)(σ:St)(H:Hp):Prop
 | mk (W:Nat->St->Hp->Prop):(∃m,W m σ H)->(∀m σ H,W m σ H->
 c σ H fun b H1=>if b=true then ∃N:St->Hp->Prop,(∀σ' H',N σ' H'->∃m',m'<m/\W m' σ' H')/\tb {D with nx:=N,ct:=N,bk:=D.nx} σ H1 else D.nx σ H1)->vV c tb D σ H
def df{c:Expr}{body:List Stmt}{tc:TT}{tb:TS}(hp:PassesOwn (model X.prog X.w) X.A X.env X.xe)(hc:PT X c tc)(hb:Pg X body tb):PS X (.While c body [] pos) (vV tc tb):=by
 refine⟨?_⟩;intro K3 s σ H D I h;obtain⟨W,⟨m0,w0⟩,UU⟩:=h;refine wpAny_While (codeAny_whileLoop (fun n s'=>∃σ' H',NO X K3 σ' H' s'/\W n σ' H') ?_ m0 ⟨σ,H,I,w0⟩);rintro n s1 ⟨σ1,H1,I1,w1⟩;refine D_ hp (bN (hc K3 s1 σ1 H1 _ I1 (UU n σ1 H1 w1)) fun b s2⟨H2,I2,q2⟩=>?_);cases b with
 |true=>
  obtain⟨N,hN,q2⟩:=q2;rw[g_ rfl];refine D_ hp (bN (hb K3 s2 σ1 H2 _ I2 q2) fun f s3 q3=>?_);cases f with
  |next=>
   obtain⟨σ3,H3,I3,n3⟩:=q3;obtain⟨m',hm,w3⟩:=hN σ3 H3 n3;exact⟨m',hm,σ3,H3,I3,w3⟩
  |cont=>
   obtain⟨σ3,H3,I3,n3⟩:=q3;obtain⟨m',hm,w3⟩:=hN σ3 H3 n3;exact⟨m',hm,σ3,H3,I3,w3⟩
  |brk=>exact q3
  |ret v=>exact q3
 |false=>
  rw[e_ JK];exact Sh ⟨σ1,H2,I2,q2⟩
end
structure It where
 go:Nat->Hp->Prop
 yld:Nat->Hp->V->Hp->Prop
 stop:Nat->Hp->Prop
def Of(X:Cx)(K3:List (Ux×Obj))(H:Hp)(b:Ux):Prop:=
 H b=none/\b≠X.env.locals/\b∉X.fs/\(b∈X.ex\/X.s₀.heap.objs.size<=b)/\(∀x c,X.env.cells.lookup x=some c->c≠b)/\∀p∈X.pn++K3,p.1≠b
variable{σ:St}{K3:List (Ux×Obj)}
def NO.fpOk{H H':Hp}(I:NO X K3 σ H s)(hb:s.heap.objs.size<=b)(hn:H' b=none):Of X K3 H' b:=by
 refine⟨hn,KC (JW I.lt hb),I.nofs hb,.inr (J4 I.sz hb),fun x c e z=>?_,fun p hp z=>?_⟩
 ·obtain⟨v,q⟩:=I.cell x c e;exact absurd (JW q.lt (by rw[z];exact hb)) (Kk _)
 ·exact absurd (JW (JD (I.pin p hp).1) (by rw[z];exact hb)) (Kk _)
structure kX(P:Uz)(w:UA)(K:ZF)(tg:Expr)(J:It)(fp:List Ux)(it:Ux)(tn:Nat->Heap->Prop):Prop where
 mem:it∈fp
 obj:∀i h,tn i h->∀b∈fp,∃o,h.get? b=some o/\∀v,o.data≠.cell v
 keep:∀i h h',tn i h->(∀b∈fp,∀o,h.get? b=some o->h'.get? b=some o)->tn i h'
 item:∀(X:Cx),X.prog=P->X.w=w->X.K=K->X.calm=true->∀(i:Nat)(K3:List (Ux×Obj))(s:Uy)(σ:St)(H:Hp)(E:Uw->Uy->Prop),NO X K3 σ H s->(∀b∈fp,Of X K3 H b)->tn i s.heap->J.go i H->
  wpAny (model P w) X.A (pyNext (.ref it)) (fun r s1=>∃u,r=some u /\
   wpAny (model P w) X.A (letOwnedTupleGo tg (.ref it) u) (fun _ s2=>∃x H',NO X K3 σ H' s2/\NY x u/\J.yld i H x H'/\tn (i+1) s2.heap/\∀b∈fp,H' b=none) E s1) E s
 done:∀(X:Cx),X.prog=P->X.w=w->X.K=K->X.calm=true->∀(i:Nat)(K3:List (Ux×Obj))(s:Uy)(σ:St)(H:Hp)(E:Uw->Uy->Prop),NO X K3 σ H s->(∀b∈fp,Of X K3 H b)->tn i s.heap->J.stop i H->
  wpAny (model P w) X.A (pyNext (.ref it)) (fun r s1=>r=none/\NO X K3 σ H s1) E s
 self:∀(A:UB)(i:Nat)(s:Uy)(Q:Uw->Uy->Prop)(E:Uw->Uy->Prop),tn i s.heap->Q (.ref it) s->wpAny (model P w) A (pyIter (.ref it)) Q E s
abbrev TI:=St->Hp->(It->Hp->Prop)->Prop
inductive GU(X:Cx)(K3:List (Ux×Obj))(σ:St)(tg:Expr)(R:It->Hp->Prop)(XR:Uw)(s2:Uy):Prop
 |mk(it:Ux)(fp:List Ux)(tn:Nat->Heap->Prop)(J:It)(H':Hp):XR=.ref it->NO X K3 σ H' s2->kX X.prog X.w X.K tg J fp it tn->tn 0 s2.heap->(∀b∈fp,Of X K3 H' b)->R J H'->GU X K3 σ tg R XR s2
structure PI(X:Cx)(tg iter:Expr)(wi:TI):Prop where
 run:∀(K3:List (Ux×Obj))(s:Uy)(σ:St)(H:Hp)(R:It->Hp->Prop),NO X K3 σ H s->wi σ H R->
  wpAny (model X.prog X.w) X.A (eval iter X.env) (fun v s1=>wpAny (model X.prog X.w) X.A (pyIter v) (GU X K3 σ tg R) X.xe s1) X.xe s
instance {X:Cx}{tg iter:Expr}{wi:TI}:CoeFun (PI X tg iter wi) fun _=>∀(K3:List (Ux×Obj))(s:Uy)(σ:St)(H:Hp)(R:It->Hp->Prop),NO X K3 σ H s->wi σ H R->
  wpAny (model X.prog X.w) X.A (eval iter X.env) (fun v s1=>wpAny (model X.prog X.w) X.A (pyIter v) (GU X K3 σ tg R) X.xe s1) X.xe s:=⟨PI.run⟩
def oJ{M:Model}{A:UB}{E:Uw->Uy->Prop}{tg:Expr}{it:Ux}{u:Uw}{o:Obj}{n:String}{vs:Array Uw}{Q:Unit->Uy->Prop}(ho:s.heap.get? it=some o)(hc:o.cls=.type n)(hd:o.data=.fields vs)
  (hn:["enumerate","zip","dict_itemiterator","dict_reverseitemiterator","odict_iterator","itertools.zip_longest","itertools.pairwise"].contains n=false) (hQ:Q () s):wpAny M A (letOwnedTupleGo tg (.ref it) u) Q E s:=by
 unfold letOwnedTupleGo;cases tg<;>first
  |exact c_ hQ
  | (cases u<;>first
    |exact c_ hQ
    | (refine a_ (wpAny_load ho ?_)
       rw[hc,hd];show wpAny M A (if(["enumerate","zip","dict_itemiterator","dict_reverseitemiterator","odict_iterator","itertools.zip_longest","itertools.pairwise"].contains n&&vs[0]?==some (rawInt _))=true then _ else _) Q E s;rw[e_ (by intro h;rw[hn,SI]at h;cases h)];exact c_ hQ))
def Be(K:ZF)(a:Ux):It:=
 ⟨fun i H=>∃xs x,NQ K H a xs/\xs[i]?=some x,fun i H x H'=>H'=H/\∀xs,NQ K H a xs->xs[i]?=some x,fun i H=>∃xs,NQ K H a xs/\xs.length<=i⟩
def Bf(K:ZF)(a:Ux):It:=
 ⟨fun i H=>∃xs x,NL K H a xs/\xs[i]?=some x,fun i H x H'=>H'=H/\∀xs,NL K H a xs->xs[i]?=some x,fun i H=>∃xs,NL K H a xs/\xs.length<=i⟩
def zr(lo:Int)(n:Nat):It:=⟨fun i _=>i<n,fun i H x H'=>H'=H/\x=.int (lo+i),fun i _=>n<=i⟩
variable{tg:Expr}{K:ZF}
def ui(a it:Ux):kX P w K tg (Be K a) [it] it (fun i h=>h.IsListIter it a i) where
 mem:=by simp
 obj:=fun i h st b hb=>by
  have e:b=it:=by simpa using hb
  subst e;obtain⟨o,e,c,d⟩:=st;exact⟨o,e,fun v z=>by rw[d]at z;cases z⟩
 keep:=fun i h h' st k=>st.at fun o e=>k it (by simp) o e
 item:=by
  intro X hP hw hK hc i K3 s σ H E I hf st hg;subst hP hw hK;obtain⟨xs,x,hq,hx⟩:=hg;obtain⟨f',rv,p,hz⟩:=I.list hq;obtain⟨u,hu,ru⟩:=rv.get hx;obtain⟨f0,f1,f2,f3,f4,f5⟩:=hf it (by simp);refine wpAny_pyNext_list_item st p.isList (x:=u) (by simpa using hu) fun h' Vz sb=>?_;have I1:NO X K3 σ H {s with heap:=h'}:=I.turned (t':=s.toks) (fun b o hb e=>(sb.2 b hb).trans e) f0 f1 f3 f4 f5;obtain⟨o,e,c,d⟩:=id Vz;exact⟨u,rfl,oJ (s:={s with heap:=h'}) e c d zd ⟨x,H,I1,ru,⟨rfl,fun ys hy=>by rw[I.list_inj hy hq];exact hx⟩,Vz,fun b hb=>(hf b hb).1⟩⟩
 done:=by
  intro X hP hw hK hc i K3 s σ H E I hf st hg;subst hP hw hK;obtain⟨xs,hq,hx⟩:=hg;obtain⟨f',rv,p,hz⟩:=I.list hq;obtain⟨f0,f1,f2,f3,f4,f5⟩:=hf it (by simp);have hl:=rv.length;exact wpAny_pyNext_list_end (I.ok.hd hc) st p.isList (by simp;lia) fun h' eb=>⟨rfl,I.turned (t':=s.toks) (fun b o hb e=>eb b o hb e) f0 f1 f3 f4 f5⟩
 self:=fun _ _ _ _ _ st h=>wpAny_pyIter_listiter st h
def pZ(a it:Ux):kX P w K tg (Bf K a) [it] it (fun i h=>h.IsTupleIter it a i) where
 mem:=by simp
 obj:=fun i h st b hb=>by
  have e:b=it:=by simpa using hb
  subst e;obtain⟨o,e,c,d⟩:=st;exact⟨o,e,fun v z=>by rw[d]at z;cases z⟩
 keep:=fun i h h' st k=>st.at fun o e=>k it (by simp) o e
 item:=by
  intro X hP hw hK hc i K3 s σ H E I hf st hg;subst hP hw hK;obtain⟨xs,x,hq,hx⟩:=hg;obtain⟨f',rv,p,hz⟩:=I.tuple hq;obtain⟨u,hu,ru⟩:=rv.get hx;obtain⟨f0,f1,f2,f3,f4,f5⟩:=hf it (by simp);refine wpAny_pyNext_tuple_item st (show s.heap.IsTuple a f'.toArray from p) (x:=u) (by simpa using hu) fun h' Vz sb=>?_;have I1:NO X K3 σ H {s with heap:=h'}:=I.turned (t':=s.toks) (fun b o hb e=>(sb.2 b hb).trans e) f0 f1 f3 f4 f5;obtain⟨o,e,c,d⟩:=id Vz;exact⟨u,rfl,oJ (s:={s with heap:=h'}) e c d zd ⟨x,H,I1,ru,⟨rfl,fun ys hy=>by rw[I.tuple_inj hy hq];exact hx⟩,Vz,fun b hb=>(hf b hb).1⟩⟩
 done:=by
  intro X hP hw hK hc i K3 s σ H E I hf st hg;subst hP hw hK;obtain⟨xs,hq,hx⟩:=hg;obtain⟨f',rv,p,hz⟩:=I.tuple hq;obtain⟨f0,f1,f2,f3,f4,f5⟩:=hf it (by simp);have hl:=rv.length;exact wpAny_pyNext_tuple_end (I.ok.hd hc) st (show s.heap.IsTuple a f'.toArray from p) (by simp;lia) fun h' eb=>⟨rfl,I.turned (t':=s.toks) (fun b o hb e=>eb b o hb e) f0 f1 f3 f4 f5⟩
 self:=fun _ _ _ _ _ st h=>wpAny_pyIter_tupleiter st h
def qa(it:Ux)(lo:Int)(n:Nat):kX P w K tg (zr lo n) [it] it (fun i h=>IsRangeIter h it (lo+(i:Nat)*1) ((n:Int)-(i:Nat)) 1) where
 mem:=by simp
 obj:=fun i h st b hb=>by
  have e:b=it:=by simpa using hb
  subst e;exact⟨_,st,fun v z=>by
   have z':Data.fields _=Data.cell v:=z;cases z'⟩
 keep:=fun i h h' st k=>k it (by simp) _ st
 item:=by
  intro X hP hw hK hc i K3 s σ H E I hf st hg;subst hP hw hK;obtain⟨f0,f1,f2,f3,f4,f5⟩:=hf it (by simp);have W:=Walks.range (prog:=X.prog) (w:=X.w) (I.ok.hd hc) it lo 1 n;refine W.item i s _ _ hg st fun v h' tk hv Vz kk=>?_;obtain⟨t,rfl⟩:=hv;have I1:NO X K3 σ H {s with heap:=h',toks:=tk}:=I.turned (fun b o hb e=>kk b o (by simpa using hb) e) f0 f1 f3 f4 f5;refine⟨_,rfl,oJ (s:={s with heap:=h',toks:=tk}) (n:="range_iterator") Vz rfl rfl zd ⟨.int (lo+i),H,I1,⟨t,?_⟩,⟨rfl,rfl⟩,Vz,fun b hb=>(hf b hb).1⟩⟩;rw[Int.mul_one]
 done:=by
  intro X hP hw hK hc i K3 s σ H E I hf st hg;subst hP hw hK;obtain⟨f0,f1,f2,f3,f4,f5⟩:=hf it (by simp);exact wpAny_pyNext_range_end (I.ok.hd hc) st (by have:n<=i:=hg;lia) fun h' eb=>⟨rfl,I.turned (t':=s.toks) (fun b o hb e=>eb b o hb e) f0 f1 f3 f4 f5⟩
 self:=fun _ _ _ _ _ st h=>wpAny_pyIter_rangeiter st h
section
variable{X:Cx}{tg:Expr}
inductive vW(K:ZF)(R:It->Hp->Prop)(x:V)(H1:Hp):Prop
 |mk(a:_):x=.ref a->(∃xs,NQ K H1 a xs)->R (Be K a) H1->vW K R x H1
def Bg(K:ZF)(tl:TE):TI:=fun σ H R=>tl σ H fun x H1=>vW K R x H1
inductive Bh(K:ZF)(R:It->Hp->Prop)(x:V)(H1:Hp):Prop
 |mk(a:_):x=.ref a->(∃xs,NL K H1 a xs)->R (Bf K a) H1->Bh K R x H1
def E8(K:ZF)(tl:TE):TI:=fun σ H R=>tl σ H fun x H1=>Bh K R x H1
def bV{l:Expr}{tl:TE}(hl:PE X l tl):PI X tg l (Bg X.K tl):=by
 refine⟨?_⟩;intro K3 s σ H R I h;refine bN (hl K3 s σ H _ I h) fun v s1 hZZ=>?_;obtain⟨x,H1,I1,r1,q1⟩:=hZZ;obtain⟨a,e,⟨xs,hq⟩,q⟩:=q1;subst e;cases r1;obtain⟨f',rv,p,hz⟩:=I1.list hq;refine R4 p.isList ?_;refine⟨s1.heap.objs.size,[s1.heap.objs.size],_,_,H1,rfl,I1.kept (t':=s1.toks) fun b o e=>Jz _ e,ui a _,⟨_,JG _ rfl,rfl,rfl⟩,fun b hb=>?_,q⟩;have e:b=s1.heap.objs.size:=by simpa using hb
 subst e;exact I1.fpOk (JB _) (I1.hok.fresh (JB _))
def cK{l:Expr}{tl:TE}(hl:PE X l tl):PI X tg l (E8 X.K tl):=by
 refine⟨?_⟩;intro K3 s σ H R I h;refine bN (hl K3 s σ H _ I h) fun v s1 hZZ=>?_;obtain⟨x,H1,I1,r1,q1⟩:=hZZ;obtain⟨a,e,⟨xs,hq⟩,q⟩:=q1;subst e;cases r1;obtain⟨f',rv,p,hz⟩:=I1.tuple hq;refine J_ (show s1.heap.IsTuple a f'.toArray from p) ?_;refine⟨s1.heap.objs.size,[s1.heap.objs.size],_,_,H1,rfl,I1.kept (t':=s1.toks) fun b o e=>Jz _ e,pZ a _,⟨_,JG _ rfl,rfl,rfl⟩,fun b hb=>?_,q⟩;have e:b=s1.heap.objs.size:=by simpa using hb
 subst e;exact I1.fpOk (JB _) (I1.hok.fresh (JB _))
def oK{R:It->Hp->Prop}{E:Uw->Uy->Prop}{lo hi:Int}{t u v:Tok}{tk:Nat}(I:NO X K3 σ H s)(h1:-(2^62)<=lo)(h2:lo<2^62)(h3:-(2^62)<=hi)(h4:hi<2^62)
  (q:R (zr lo (hi-lo).toNat) H):wpAny (model X.prog X.w) X.A (pyIter (.ref s.heap.objs.size)) (GU X K3 σ tg R) E {s with heap:=s.heap.push {cls:=.type "range",data:=.fields #[.int lo t,.int hi u,.int 1 v]},toks:=tk}:=by
 refine wpAny_pyIter_range (IsRange.new ..) (small_one h1 h2 h3 h4) ?_;have I1:NO X K3 σ H {s with heap:=s.heap.push {cls:=.type "range",data:=.fields #[.int lo t,.int hi u,.int 1 v]},toks:=tk}:=I.kept fun b o e=>Jz _ e;refine⟨(s.heap.push {cls:=.type "range",data:=.fields #[.int lo t,.int hi u,.int 1 v]}).objs.size,[(s.heap.push {cls:=.type "range",data:=.fields #[.int lo t,.int hi u,.int 1 v]}).objs.size],_,_,H,rfl,
  I1.kept (t':=tk) fun b o e=>Jz _ e,qa _ lo (hi-lo).toNat,?_,fun b hb=>?_,q⟩
 ·have e1:lo+((0:Nat):Int)*1=lo:=by simp
  have e2:(((hi-lo).toNat:Nat):Int)-((0:Nat):Int)=Builtin.Range.rangeSize lo hi 1:=by rw[rangeSize_one];split<;>lia
  show IsRangeIter _ _ (lo+((0:Nat):Int)*1) ((((hi-lo).toNat:Nat):Int)-((0:Nat):Int)) 1;rw[e1,e2];exact JG _ rfl
 ·have e:b=(s.heap.push {cls:=.type "range",data:=.fields #[.int lo t,.int hi u,.int 1 v]}).objs.size:=by simpa using hb
  subst e;exact I1.fpOk (JB _) (I1.hok.fresh (JB _))
inductive vX(R:It->Hp->Prop)(vs:UG)(H1:Hp):Prop
 |mk(j:Int):vs=[.int j]->-(2^62)<=j->j<2^62->R (zr 0 j.toNat) H1->vX R vs H1
def E9(ta:TA):TI:=fun σ H R=>ta σ H fun vs H1=>vX R vs H1
inductive vY(R:It->Hp->Prop)(vs:UG)(H1:Hp):Prop
 |mk(i j:Int):vs=[.int i,.int j]->(-(2^62)<=i/\i<2^62/\-(2^62)<=j/\j<2^62)->R (zr i (j-i).toNat) H1->vY R vs H1
def Fa(ta:TA):TI:=fun σ H R=>ta σ H fun vs H1=>vY R vs H1
variable{p pos:Pos}{ta:TA}
def cF{a:Expr}(hg:Gl X "range")(hm:X.mg "range"=none)(ha:PA X [a] ta)(hs:starEach [a] X.env=[(false,eval a X.env)]:=by rfl):PI X tg (.Call (.Name "range" p) [a] [] pos) (E9 ta):=by
 refine⟨?_⟩;intro K3 s σ H R I h;refine Call_ (fj I hg hm boot_range (Ke (bN (ha pos K3 s σ H _ I h) fun us s1 hZZ=>?_) hs rfl));obtain⟨vs,H1,I1,r1,q1⟩:=hZZ;obtain⟨j,e,q1,q2,q⟩:=q1;subst e;cases r1 with
 |cons r rr=>
  cases rr;obtain⟨t,rfl⟩:=r;exact call_range_1 (oK I1 zo zo q1 q2 (by simpa using q))
def uj{a b:Expr}{p pos:Pos}(hg:Gl X "range")(hm:X.mg "range"=none)(ha:PA X [a,b] ta)(hs:starEach [a,b] X.env=[(false,eval a X.env),(false,eval b X.env)]:=by rfl)(Vq:starEach [b] X.env=[(false,eval b X.env)]:=by rfl):
  PI X tg (.Call (.Name "range" p) [a,b] [] pos) (Fa ta):=by
 refine⟨?_⟩;intro K3 s σ H R I h;refine Call_ (fj I hg hm boot_range (Ke (bN (ha pos K3 s σ H _ I h) fun us s1 hZZ=>?_) (by rw[hs,Vq]) (by rw[Vq];rfl)));obtain⟨vs,H1,I1,r1,q1⟩:=hZZ;obtain⟨i,j,e,⟨q1,q2,q3,q4⟩,q⟩:=q1;subst e;cases r1 with
 |cons r rr=>
  cases rr with
  |cons r' rr=>
   cases rr;obtain⟨t,rfl⟩:=r;obtain⟨t',rfl⟩:=r';exact call_range_2 (oK I1 q1 q2 q3 q4 q)
def Ho(wi:TI)(g:TG)(tb:TS):TS:=fun D σ H=>wi σ H fun J H1=>∃W:Nat->Nat->St->Hp->Prop,(∃m,W 0 m σ H1)/\∀i m σ H,W i m σ H->
 (J.stop i H/\D.nx σ H)\/(J.go i H/\∃N:St->Hp->Prop,(∀σ' H',N σ' H'->∃m',m'<m/\W (i+1) m' σ' H')/\∀x H',J.yld i H x H'->g x σ H' fun σ2 H2=>tb {D with nx:=N,ct:=N,bk:=D.nx} σ2 H2)
def ck(fp:List Ux)(h:Heap):List (Ux×Obj):=fp.filterMap fun b=>(h.get? b).map fun o=>(b,o)
variable{fp:List Ux}
def da{o:Obj}(hb:b∈fp)(e:h.get? b=some o):(b,o)∈ck fp h:=List.mem_filterMap.mpr ⟨b,hb,by rw[e];rfl⟩
def fT{p:Ux×Obj}(hp:p∈ck fp h):p.1∈fp/\h.get? p.1=some p.2:=by
 obtain⟨b,hb,e⟩:=List.mem_filterMap.mp hp;cases q:h.get? b with
 |none=>rw[q]at e;cases e
 |some o=>
  rw[q]at e;have e':(b,o)=p:=JS e;subst e';exact⟨hb,q⟩
def NO.pinned(I:NO X K3 σ H s)(hf:∀b∈fp,Of X K3 H b)(ho:∀b∈fp,∃o,s.heap.get? b=some o/\∀v,o.data≠.cell v):NO X (K3++ck fp s.heap) σ H s:=
 I.pins_of fun p hp=>(Kc.mp hp).elim (fun z=>I.pin p (JE _ z)) fun z=>by
  obtain⟨hb,e⟩:=fT z;obtain⟨f0,f1,f2,_⟩:=hf p.1 hb;obtain⟨o,e',d⟩:=ho p.1 hb;rw[e]at e';cases e';exact⟨e,f0,f1,f2,d⟩
def NO.unpinned{K3 pl:List (Ux×Obj)}(I:NO X (K3++pl) σ H s):NO X K3 σ H s:=I.pins_of fun p hp=>I.pin p (JE _ (JZ _ hp))
def cv{iter:Expr}{body:List Stmt}{wi:TI}{g:TG}{tb:TS}{pos:Pos}(hp:PassesOwn (model X.prog X.w) X.A X.env X.xe)(hc:X.calm=true)(hi:PI X tg iter wi)(hg:PG X tg g)(hb:Pg X body tb)
  (hs:∀x,foldedSetIterable iter X.env x=pure x:=by intro _;rfl):PS X (.For tg iter body [] pos) (Ho wi g tb):=by
 refine⟨?_⟩;intro K3 s σ H D I h;refine wpAny_For (bN (hi K3 s σ H _ I h) fun v s1 h1=>bN h1 fun XR s2 h2=>?_) hs;obtain⟨it,fp,tn,J,H2,e,I2,T,V2,f2,W,⟨m0,w0⟩,UU⟩:=h2;subst e;have XE:∀{H':Hp},(∀b∈fp,H' b=none)->∀b∈fp,Of X K3 H' b:=fun hn b hb=>⟨hn b hb,(f2 b hb).2⟩;refine codeAny_forLoop_any (fun n s'=>∃i σ' H',NO X K3 σ' H' s'/\tn i s'.heap/\(∀b∈fp,H' b=none)/\W i n σ' H') ?_ m0 ⟨0,σ,H2,I2,V2,fun b hb=>(f2 b hb).1,w0⟩;rintro n s3 ⟨i,σ3,H3,I3,st3,fr3,w3⟩;rcases UU i n σ3 H3 w3 with⟨stop,qn⟩|⟨go,N,hN,step⟩
 ·refine D_ hp (bN (T.done X rfl rfl rfl hc i K3 s3 σ3 H3 X.xe I3 (XE fr3) st3 stop) fun r s4⟨hr,I4⟩=>?_);subst hr;exact Sh ⟨σ3,H3,I4,qn⟩
 ·refine D_ hp (bN (T.item X rfl rfl rfl hc i K3 s3 σ3 H3 X.xe I3 (XE fr3) st3 go) fun r s4⟨u,hr,h4⟩=>?_);subst hr;refine D_ hp (bN h4 fun _ s5 hZZ=>?_);obtain⟨x,H5,I5,r5,y5,VG,V7⟩:=hZZ;have I5':=I5.pinned (XE V7) (T.obj _ _ VG);refine D_ hp (bN (hg _ s5 σ3 H5 x u _ I5' r5 (step x H5 y5)) fun _ s6⟨σ6,H6,I6,q6⟩=>?_);refine D_ hp (bN (hb _ s6 σ6 H6 _ I6 q6) fun f s7 q7=>?_);have again:∀{σ7:St}{H7:Hp},NO X (K3++ck fp s5.heap) σ7 H7 s7->N σ7 H7->∃m,m<n/\∃i σ' H',NO X K3 σ' H' s7/\tn i s7.heap/\(∀b∈fp,H' b=none)/\W i m σ' H':=fun{σ7 H7}I7 n7=>by
   obtain⟨m',hm,w7⟩:=hN σ7 H7 n7;refine⟨m',hm,i+1,σ7,H7,I7.unpinned,T.keep _ _ _ VG fun b hb o e=>(I7.pin (b,o) (JE _ (JE _ (da hb e)))).1,fun b hb=>?_,w7⟩;obtain⟨o,e,d⟩:=T.obj _ _ VG b hb;exact(I7.pin (b,o) (JE _ (JE _ (da hb e)))).2.1
  cases f with
  |next=>obtain⟨σ7,H7,I7,n7⟩:=q7;exact again I7 n7
  |cont=>obtain⟨σ7,H7,I7,n7⟩:=q7;exact again I7 n7
  |brk=>obtain⟨σ7,H7,I7,q7⟩:=q7;exact⟨σ7,H7,I7.unpinned,q7⟩
  |ret v=>obtain⟨x7,σ7,H7,I7,r7,q7⟩:=q7;exact⟨x7,σ7,H7,I7.unpinned,r7,q7⟩
end
def fk{g:TG}{tb:TS}{D:fh}(Pv:Nat->St->Hp->Prop)(h0:Pv 0 σ H)(hl:∀i σ H,i<=xs.length->Pv i σ H->NQ K H a xs)
  (hs:∀i x σ H,xs[i]?=some x->Pv i σ H->g x σ H fun σ2 H2=>tb {D with nx:=Pv (i+1),ct:=Pv (i+1),bk:=D.nx} σ2 H2) (hd:∀σ H,Pv xs.length σ H->D.nx σ H) :
  ∃W:Nat->Nat->St->Hp->Prop,(∃m,W 0 m σ H)/\∀i m σ H,W i m σ H->
   ((Be K a).stop i H/\D.nx σ H)\/((Be K a).go i H/\∃N:St->Hp->Prop,(∀σ' H',N σ' H'->∃m',m'<m/\W (i+1) m' σ' H')/\∀x H',(Be K a).yld i H x H'->g x σ H' fun σ2 H2=>tb {D with nx:=N,ct:=N,bk:=D.nx} σ2 H2):=by
 refine⟨fun i m σ H=>m=xs.length-i/\i<=xs.length/\Pv i σ H,⟨xs.length,by simp,JN _,h0⟩,?_⟩;rintro i m σ H ⟨rfl,hi,p⟩;have q:=hl i σ H hi p;by_cases Ld:i<xs.length
 ·refine .inr ⟨⟨xs,xs[i],q,by simp[Ld]⟩,Pv (i+1),fun σ' H' p'=>⟨xs.length-(i+1),zo,rfl,Ld,p'⟩,fun x H' y=>?_⟩;obtain⟨e,y⟩:=y;subst e;exact hs i x σ _ (y xs q) p
 ·have e:i=xs.length:=by lia
  subst e;exact .inl ⟨⟨xs,q,JB _⟩,hd σ H p⟩
def dJ{g:TG}{tb:TS}{D:fh}(Pv:Nat->St->Hp->Prop)(h0:Pv 0 σ H)(hl:∀i σ H,i<=xs.length->Pv i σ H->NL K H a xs)
  (hs:∀i x σ H,xs[i]?=some x->Pv i σ H->g x σ H fun σ2 H2=>tb {D with nx:=Pv (i+1),ct:=Pv (i+1),bk:=D.nx} σ2 H2) (hd:∀σ H,Pv xs.length σ H->D.nx σ H) :
  ∃W:Nat->Nat->St->Hp->Prop,(∃m,W 0 m σ H)/\∀i m σ H,W i m σ H->
   ((Bf K a).stop i H/\D.nx σ H)\/((Bf K a).go i H/\∃N:St->Hp->Prop,(∀σ' H',N σ' H'->∃m',m'<m/\W (i+1) m' σ' H')/\∀x H',(Bf K a).yld i H x H'->g x σ H' fun σ2 H2=>tb {D with nx:=N,ct:=N,bk:=D.nx} σ2 H2):=by
 refine⟨fun i m σ H=>m=xs.length-i/\i<=xs.length/\Pv i σ H,⟨xs.length,by simp,JN _,h0⟩,?_⟩;rintro i m σ H ⟨rfl,hi,p⟩;have q:=hl i σ H hi p;by_cases Ld:i<xs.length
 ·refine .inr ⟨⟨xs,xs[i],q,by simp[Ld]⟩,Pv (i+1),fun σ' H' p'=>⟨xs.length-(i+1),zo,rfl,Ld,p'⟩,fun x H' y=>?_⟩;obtain⟨e,y⟩:=y;subst e;exact hs i x σ _ (y xs q) p
 ·have e:i=xs.length:=by lia
  subst e;exact .inl ⟨⟨xs,q,JB _⟩,hd σ H p⟩
def ul{lo:Int}{n:Nat}{g:TG}{tb:TS}{D:fh}(Pv:Nat->St->Hp->Prop)(h0:Pv 0 σ H)
  (hs:∀i σ H,i<n->Pv i σ H->g (.int (lo+i)) σ H fun σ2 H2=>tb {D with nx:=Pv (i+1),ct:=Pv (i+1),bk:=D.nx} σ2 H2) (hd:∀σ H,Pv n σ H->D.nx σ H) :
  ∃W:Nat->Nat->St->Hp->Prop,(∃m,W 0 m σ H)/\∀i m σ H,W i m σ H->
   ((zr lo n).stop i H/\D.nx σ H)\/((zr lo n).go i H/\∃N:St->Hp->Prop,(∀σ' H',N σ' H'->∃m',m'<m/\W (i+1) m' σ' H')/\∀x H',(zr lo n).yld i H x H'->g x σ H' fun σ2 H2=>tb {D with nx:=N,ct:=N,bk:=D.nx} σ2 H2):=by
 refine⟨fun i m σ H=>m=n-i/\i<=n/\Pv i σ H,⟨n,by simp,JN _,h0⟩,?_⟩;rintro i m σ H ⟨rfl,hi,p⟩;by_cases Ld:i<n
 ·refine .inr ⟨Ld,Pv (i+1),fun σ' H' p'=>⟨n-(i+1),zo,rfl,Ld,p'⟩,fun x H' y=>?_⟩;obtain⟨e,y⟩:=y;subst e y;exact hs i σ _ Ld p
 ·have e:i=n:=by lia
  subst e;exact .inl ⟨JB _,hd σ H p⟩
abbrev R2:=V->V->Hp->VK->Prop
def eM(X:Cx)(f:Uw->Uw->Sem Uw)(r:R2):Prop:=
 ∀(K3:List (Ux×Obj))(s:Uy)(σ:St)(H:Hp)(x y:V)(v u:Uw)(Q:VK),NO X K3 σ H s->NY x v->NY y u->r x y H Q->
  wpAny (model X.prog X.w) X.A (f v u) (EP X K3 σ Q) X.xe s
def Hq(X:Cx)(f:Uw->Sem Uw)(r:V->Hp->VK->Prop):Prop:=
 ∀(K3:List (Ux×Obj))(s:Uy)(σ:St)(H:Hp)(x:V)(v:Uw)(Q:VK),NO X K3 σ H s->NY x v->r x H Q->
  wpAny (model X.prog X.w) X.A (f v) (EP X K3 σ Q) X.xe s
def cH(X:Cx)(f:Uw)(r:UG->Hp->VK->Prop):Prop:=
 ∀(K3:List (Ux×Obj))(s:Uy)(σ:St)(H:Hp)(xs:UG)(us:List Uw)(Q:VK),NO X K3 σ H s->NV xs us->r xs H Q->
  wpAny (model X.prog X.w) X.A (call f us) (EP X K3 σ Q) X.xe s
def Hr(X:Cx)(r:V->Hp->(Bool->Hp->Prop)->Prop):Prop:=
 ∀(K3:List (Ux×Obj))(s:Uy)(σ:St)(H:Hp)(x:V)(v:Uw)(Q:Bool->Hp->Prop),NO X K3 σ H s->NY x v->r x H Q->
  wpAny (model X.prog X.w) X.A (truthy v) (TP X K3 σ Q) X.xe s
def GV(r:R2)(ta tb:TE):TE:=fun σ H Q=>ta σ H fun x H1=>tb σ H1 fun y H2=>r x y H2 Q
def Jn(r:V->Hp->VK->Prop)(ta:TE):TE:=fun σ H Q=>ta σ H fun x H1=>r x H1 Q
inductive rI(C:Int->Int->Prop)(g:Int->Int->V)(x:V)(y:V)(H:Hp)(Q:VK):Prop
 |mk(i j:_):x=.int i->y=.int j->C i j->Q (g i j) H->rI C g x y H Q
inductive zt(g:Int->Int->V)(x:V)(y:V)(H:Hp)(Q:VK):Prop
 |mk(i j:_):x=.int i->y=.int j->Q (g i j) H->zt g x y H Q
inductive rU(g:Int->V)(x:V)(H:Hp)(Q:VK):Prop
 |mk(i:_):x=.int i->Q (g i) H->rU g x H Q
section
variable{X:Cx}{a b c:Expr}{ta tb tc:TE}{pos:Pos}
def Cf(ha:PE X a ta)(hb:PE X b tb){R:V->V->Hp->Prop}(I:NO X K3 σ H s)
  (h:ta σ H fun x H1=>tb σ H1 fun y H2=>R x y H2) {Q:Uw->Uy->Prop} {f:Uw->Uw->Sem Uw}
  (hf:∀v u s2 x y H2,NO X K3 σ H2 s2->NY x v->NY y u->R x y H2->wpAny (model X.prog X.w) X.A (f v u) Q X.xe s2) :
  wpAny (model X.prog X.w) X.A (eval a X.env) (fun v s₁=>wpAny (model X.prog X.w) X.A (eval b X.env) (fun u s₂=>wpAny (model X.prog X.w) X.A (f v u) Q X.xe s₂) X.xe s₁) X.xe s:=by
 refine bN (ha K3 s σ H _ I h) fun v s1 hZZ=>?_;obtain⟨x,H1,I1,r1,q1⟩:=hZZ;refine bN (hb K3 s1 σ H1 _ I1 q1) fun u s2 hZZ=>?_;obtain⟨y,H2,I2,r2,q2⟩:=hZZ;exact hf v u s2 x y H2 I2 r1 r2 q2
def aX{op:Operator}{r:R2}(ho:eM X (binaryOp op) r)(ha:PE X a ta)(hb:PE X b tb):PE X (.BinOp a op b pos) (GV r ta tb):=by
 refine⟨?_⟩;intro K3 s σ H Q I h;exact wpAny_BinOp (Cf ha hb I h fun v u s2 x y H2 I2 rx ry q=>ho K3 s2 σ H2 x y v u Q I2 rx ry q)
def Fb{op:UnaryOp}{r:V->Hp->VK->Prop}(ho:Hq X (unaryOp op) r)(ha:PE X a ta):PE X (.UnaryOp op a pos) (Jn r ta):=by
 refine⟨?_⟩;intro K3 s σ H Q I h;exact UnaryOp_ (bN (ha K3 s σ H _ I h) fun v s1⟨x,H1,I1,r1,q1⟩=>ho K3 s1 σ H1 x v Q I1 r1 q1)
def EK{f:Uw->Uw->Sem Uw}{C:Int->Int->Prop}{g:Int->Int->Int}
  (rule:∀(i j:Int)(t u:Tok)(s:Uy)(Q:Uw->Uy->Prop)(E:Uw->Uy->Prop),C i j->Q (.int (g i j) s.toks) {s with toks:=s.toks+1}->wpAny (model X.prog X.w) X.A (f (.int i t) (.int j u)) Q E s) :
  eM X f (rI C fun i j=>.int (g i j)):=by
 intro K3 s σ H x y v u Q I rx ry h;obtain⟨i,j,rfl,rfl,hc,q⟩:=h;obtain⟨t,rfl⟩:=rx;obtain⟨t',rfl⟩:=ry;exact rule i j t t' s _ _ hc ⟨.int (g i j),H,I.tok _,⟨_,rfl⟩,q⟩
def Fc{f:Uw->Uw->Sem Uw}{g:Int->Int->Int}
  (rule:∀(i j:Int)(t u:Tok)(s:Uy)(Q:Uw->Uy->Prop)(E:Uw->Uy->Prop),Q (.int (g i j) s.toks) {s with toks:=s.toks+1}->wpAny (model X.prog X.w) X.A (f (.int i t) (.int j u)) Q E s) :
  eM X f (zt fun i j=>.int (g i j)):=by
 intro K3 s σ H x y v u Q I rx ry h;obtain⟨i,j,rfl,rfl,q⟩:=h;obtain⟨t,rfl⟩:=rx;obtain⟨t',rfl⟩:=ry;exact rule i j t t' s _ _ ⟨.int (g i j),H,I.tok _,⟨_,rfl⟩,q⟩
def zu{f:Uw->Uw->Sem Uw}{g:Int->Int->Bool}
  (rule:∀(i j:Int)(t u:Tok)(s:Uy)(Q:Uw->Uy->Prop)(E:Uw->Uy->Prop),Q (.bool (g i j)) s->wpAny (model X.prog X.w) X.A (f (.int i t) (.int j u)) Q E s) :
  eM X f (zt fun i j=>.bl (g i j)):=by
 intro K3 s σ H x y v u Q I rx ry h;obtain⟨i,j,rfl,rfl,q⟩:=h;obtain⟨t,rfl⟩:=rx;obtain⟨t',rfl⟩:=ry;exact rule i j t t' s _ _ ⟨.bl (g i j),H,I,rfl,q⟩
def Hs(i j:Int):Prop:=0<j/\j<1073741824
def Cg(i j:Int):Prop:=0<=j/\j<=1000000/\i.natAbs<2^64
def Ra(i j:Int):Prop:=(-(2^64)<i/\i<2^64)\/(-(2^64)<j/\j<2^64)
def Ra.ok{i j:Int}(h:Ra i j):IntMulOk i j:=by
 rcases h with⟨h1,h2⟩|⟨h1,h2⟩
 ·exact .of_left (intBits_le_64 h1 h2)
 ·exact .of_right (intBits_le_64 h1 h2)
def cA:eM X (binaryOp .Add) (zt fun i j=>.int (i+j)):=Fc fun _ _ _ _ _ _ _ q=>add_int q
def iB:eM X (binaryOp .Sub) (zt fun i j=>.int (i-j)):=Fc fun _ _ _ _ _ _ _ q=>sub_int q
def fq:eM X (binaryOp .Mult) (rI Ra fun i j=>.int (i*j)):=EK fun _ _ _ _ _ _ _ hc q=>mul_int q hc.ok
def zw:eM X (binaryOp .FloorDiv) (rI Hs fun i j=>.int (i / j)):=EK fun i j _ _ _ _ _ hc q=>by
 have h1:(0:Int)<j:=hc.1;have h2:j<1073741824:=hc.2;exact floordiv_int zo (by rw[Sz i zo];exact q) (.inl (PyProof.noPylong_small zo))
def eO:eM X (binaryOp .Mod) (rI (fun _ j=>0<j) fun i j=>.int (i%j)):=EK fun i j _ _ _ _ _ hc q=>by
 have h1:(0:Int)<j:=hc;exact mod_int' zo (by rw[Int.fmod_eq_emod_of_nonneg i zo];exact q)
def Ch:eM X (binaryOp .Pow) (rI Cg fun i j=>.int (i^j.toNat)):=EK fun _ _ _ _ _ _ _ hc q=>pow_int_small hc.1 hc.2.1 hc.2.2 q
def lX:eM X (binaryOp .LShift) (rI Cg fun i j=>.int (i*2^j.toNat)):=EK fun _ _ _ _ _ _ _ hc q=>lshift_int_small hc.1 hc.2.1 hc.2.2 q
def Jo{f:Uw->Sem Uw}{g:Int->Int}
  (rule:∀(i:Int)(t:Tok)(s:Uy)(Q:Uw->Uy->Prop)(E:Uw->Uy->Prop),Q (.int (g i) s.toks) {s with toks:=s.toks+1}->wpAny (model X.prog X.w) X.A (f (.int i t)) Q E s) :
  Hq X f (rU fun i=>.int (g i)):=by
 intro K3 s σ H x v Q I rx h;obtain⟨i,rfl,q⟩:=h;obtain⟨t,rfl⟩:=rx;exact rule i t s _ _ ⟨.int (g i),H,I.tok _,⟨_,rfl⟩,q⟩
def Ci:Hq X (unaryOp .USub) (rU fun i=>.int (-i)):=Jo fun _ _ _ _ _ q=>neg_int q
end
def Fd:V->V->Bool
 |.non,.non=>true|.non,.int _=>true|.int _,.non=>true|.non,.bl _=>true|.bl _,.non=>true|.non,.str _=>true|.str _,.non=>true
 |.int _,.int _=>true|.bl _,.bl _=>true|.str _,.str _=>true|.byt _,.byt _=>true
 |.int _,.str _=>true|.str _,.int _=>true|.bl _,.str _=>true|.str _,.bl _=>true
 |_,_=>false
def Jp:R2:=fun x y H Q=>Fd x y=true/\Q (.bl (decide (x=y))) H
def Jq:R2:=fun x y H Q=>Fd x y=true/\Q (.bl (!decide (x=y))) H
def sw{i j:Int}:decide (V.int i=V.int j)=(i==j):=by
 rw[Km];simp
def vZ{i j:Bool}:decide (V.bl i=V.bl j)=(i==j):=by
 rw[Km];simp
def sy{i j:Str}:decide (V.str i=V.str j)=(i==j):=by
 rw[Km];simp
def sB{i j:Array UInt8}:decide (V.byt i=V.byt j)=(i.toList==j.toList):=by
 rw[Km];cases i;cases j;simp
section
variable{X:Cx}{a b c:Expr}{ta tb tc:TE}{pos:Pos}
def bv{Q:VK}{k k':Bool}(I:NO X K3 σ H s)(q:Q (.bl k) H)(e:k=k'):EP X K3 σ Q (.bool k') s:=by
 subst e;exact⟨.bl k,H,I,rfl,q⟩
def aY:eM X (compareOp .Eq) Jp:=by
 intro K3 s σ H x y v u Q I rx ry h;obtain⟨hs,q⟩:=h;cases x with
 |non=>
  cases rx;cases y with
  |non=>cases ry;exact PySem.EqNone.eq_none_none (bv I q (by simp))
  |bl j=>cases ry;exact PySem.EqNone.eq_none_bool (bv I q (by simp))
  |int j=>obtain⟨t',rfl⟩:=ry;exact PySem.EqNone.eq_none_int (bv I q (by simp))
  |str j=>obtain⟨t',rfl⟩:=ry;exact PySem.EqNone.eq_none_str (bv I q (by simp))
  |_=>exact absurd (show false=true from hs) JK
 |bl i=>
  cases rx;cases y with
  |non=>cases ry;exact PySem.EqNone.eq_bool_none (bv I q (by simp))
  |bl j=>cases ry;exact eq_bool (bv I q vZ)
  |str j=>obtain⟨t',rfl⟩:=ry;exact PySem.EqMixed.eq_bool_str (bv I q (by simp))
  |_=>exact absurd (show false=true from hs) JK
 |int i=>
  obtain⟨t,rfl⟩:=rx;cases y with
  |non=>cases ry;exact PySem.EqNone.eq_int_none (bv I q (by simp))
  |int j=>obtain⟨t',rfl⟩:=ry;exact eq_int (bv I q sw)
  |str j=>obtain⟨t',rfl⟩:=ry;exact PySem.EqMixed.eq_int_str (bv I q (by simp))
  |_=>exact absurd (show false=true from hs) JK
 |str i=>
  obtain⟨t,rfl⟩:=rx;cases y with
  |non=>cases ry;exact PySem.EqNone.eq_str_none (bv I q (by simp))
  |bl j=>cases ry;exact PySem.EqMixed.eq_str_bool (bv I q (by simp))
  |int j=>obtain⟨t',rfl⟩:=ry;exact PySem.EqMixed.eq_str_int (bv I q (by simp))
  |str j=>obtain⟨t',rfl⟩:=ry;exact eq_str (bv I q sy)
  |_=>exact absurd (show false=true from hs) JK
 |byt i=>
  obtain⟨t,rfl⟩:=rx;cases y with
  |byt j=>obtain⟨t',rfl⟩:=ry;exact PySem.W.eq_bytes (bv I q sB)
  |_=>exact absurd (show false=true from hs) JK
 |_=>cases y<;>exact absurd (show false=true from hs) JK
def fb:eM X (compareOp .NotEq) Jq:=by
 intro K3 s σ H x y v u Q I rx ry h;obtain⟨hs,q⟩:=h;cases x with
 |non=>
  cases rx;cases y with
  |non=>cases ry;exact PySem.EqNone.ne_none_none (bv I q (by simp))
  |bl j=>cases ry;exact PySem.EqNone.ne_none_bool (bv I q (by simp))
  |int j=>obtain⟨t',rfl⟩:=ry;exact PySem.EqNone.ne_none_int (bv I q (by simp))
  |str j=>obtain⟨t',rfl⟩:=ry;exact PySem.EqNone.ne_none_str (bv I q (by simp))
  |_=>exact absurd (show false=true from hs) JK
 |bl i=>
  cases rx;cases y with
  |non=>cases ry;exact PySem.EqNone.ne_bool_none (bv I q (by simp))
  |bl j=>cases ry;exact ne_bool (bv I q (i_ not vZ))
  |str j=>obtain⟨t',rfl⟩:=ry;exact PySem.EqMixed.ne_bool_str (bv I q (by simp))
  |_=>exact absurd (show false=true from hs) JK
 |int i=>
  obtain⟨t,rfl⟩:=rx;cases y with
  |non=>cases ry;exact PySem.EqNone.ne_int_none (bv I q (by simp))
  |int j=>obtain⟨t',rfl⟩:=ry;exact ne_int (bv I q (i_ not sw))
  |str j=>obtain⟨t',rfl⟩:=ry;exact PySem.EqMixed.ne_int_str (bv I q (by simp))
  |_=>exact absurd (show false=true from hs) JK
 |str i=>
  obtain⟨t,rfl⟩:=rx;cases y with
  |non=>cases ry;exact PySem.EqNone.ne_str_none (bv I q (by simp))
  |bl j=>cases ry;exact PySem.EqMixed.ne_str_bool (bv I q (by simp))
  |int j=>obtain⟨t',rfl⟩:=ry;exact PySem.EqMixed.ne_str_int (bv I q (by simp))
  |str j=>obtain⟨t',rfl⟩:=ry;exact ne_str (bv I q (i_ not sy))
  |_=>exact absurd (show false=true from hs) JK
 |byt i=>
  obtain⟨t,rfl⟩:=rx;cases y with
  |byt j=>obtain⟨t',rfl⟩:=ry;exact PySem.W.ne_bytes (bv I q (i_ not sB))
  |_=>exact absurd (show false=true from hs) JK
 |_=>cases y<;>exact absurd (show false=true from hs) JK
def dM:eM X (compareOp .Lt) (zt fun i j=>.bl (decide (i<j))):=zu fun _ _ _ _ _ _ _ q=>lt_int q
def fw:eM X (compareOp .LtE) (zt fun i j=>.bl (decide (i<=j))):=zu fun _ _ _ _ _ _ _ q=>le_int q
def sC:eM X (compareOp .Gt) (zt fun i j=>.bl (decide (j<i))):=zu fun _ _ _ _ _ _ _ q=>gt_int q
def Bi:eM X (compareOp .GtE) (zt fun i j=>.bl (decide (j<=i))):=zu fun _ _ _ _ _ _ _ q=>ge_int q
def eB:eM X (compareOp .In) (fun x y H Q=>∃i j,x=.str i/\y=.str j/\Q (.bl (!(Builtin.Str.occurrences j i 0 j.length 1).isEmpty)) H):=by
 intro K3 s σ H x y v u Q I rx ry h;obtain⟨i,j,rfl,rfl,q⟩:=h;obtain⟨t,rfl⟩:=rx;obtain⟨t',rfl⟩:=ry;exact in_str (bv I q rfl)
def iC:eM X (compareOp .Is) (fun x y H Q=>y=.non/\Q (.bl (decide (x=.non))) H):=by
 intro K3 s σ H x y v u Q I rx ry h;obtain⟨rfl,q⟩:=h;cases ry;refine is_none_gen (bv I q ?_);cases x<;>first
  |(cases rx;rfl)
  |(obtain⟨t,rfl⟩:=rx;rfl)
def lY:eM X (compareOp .NotIn) (fun x y H Q=>∃i j,x=.str i/\y=.str j/\Q (.bl (!(!(Builtin.Str.occurrences j i 0 j.length 1).isEmpty))) H):=by
 intro K3 s σ H x y v u Q I rx ry h;obtain⟨i,j,rfl,rfl,q⟩:=h;obtain⟨t,rfl⟩:=rx;obtain⟨t',rfl⟩:=ry;exact notIn_str (bv I q rfl)
variable{op:CmpOp}
def qd(b:Expr)(h:op≠.In:=by decide)(h2:op≠.NotIn:=by decide):behindInMarks op b=false:=by
 have e1:(op==CmpOp.In)=false:=by cases op<;>first|rfl|exact absurd rfl h
 have e2:(op==CmpOp.NotIn)=false:=by cases op<;>first|rfl|exact absurd rfl h2
 cases b<;>simp[behindInMarks,e1,e2]
def bK{r:R2}(ho:eM X (compareOp op) r)(ha:PE X a ta)(hb:PE X b tb)(hm:behindInMarks op b=false:=by first|exact qd _|rfl):PE X (.Compare a [op] [b] pos) (GV r ta tb):=by
 refine⟨?_⟩;intro K3 s σ H Q I h;exact wpAny_Compare1 (Cf ha hb I h fun v u s2 x y H2 I2 rx ry q=>ho K3 s2 σ H2 x y v u Q I2 rx ry q) hm
inductive v0(Q:Bool->Hp->Prop)(x:V)(H':Hp):Prop
 |mk(k:_):x=.bl k->Q k H'->v0 Q x H'
def Bj(t:TE):TT:=fun σ H Q=>t σ H fun x H'=>v0 Q x H'
def ak{r:R2}(ho:eM X (compareOp op) r)(ha:PE X a ta)(hb:PE X b tb)(hm:behindInMarks op b=false:=by first|exact qd _|rfl):PT X (.Compare a [op] [b] pos) (Bj (GV r ta tb)):=by
 refine⟨?_⟩;intro K3 s σ H Q I h;refine wpAny_isTrue_Compare1 (bN (ha K3 s σ H _ I h) fun v s1⟨x,H1,I1,r1,q1⟩=>bN (hb K3 s1 σ H1 _ I1 q1) fun u s2⟨y,H2,I2,r2,q2⟩=>
  bN (ho K3 s2 σ H2 x y v u _ I2 r1 r2 q2) fun c s3⟨z,H3,I3,r3,k,e,q3⟩=>?_) hm
 subst e;cases r3;exact p_ ⟨H3,I3,q3⟩
inductive sD(r':R2)(tc:TE)(σ:St)(Q:VK)(y:V)(z:V)(H3:Hp):Prop
 |mk(k:_):z=.bl k->(if k=true then tc σ H3 fun w' H4=>r' y w' H4 Q else Q (.bl false) H3)->sD r' tc σ Q y z H3
def wa(r r':R2)(ta tb tc:TE):TE:=fun σ H Q=>ta σ H fun x H1=>tb σ H1 fun y H2=>r x y H2 fun z H3=>sD r' tc σ Q y z H3
def jQ{op Xn:CmpOp}{r r':R2}(ho:eM X (compareOp op) r)(VJ:eM X (compareOp Xn) r')(ha:PE X a ta)(hb:PE X b tb)(hc:PE X c tc)
  (hm:lastMarks [op,Xn] [b,c]=false:=by with_unfolding_all rfl):PE X (.Compare a [op,Xn] [b,c] pos) (wa r r' ta tb tc):=by
 refine⟨?_⟩;intro K3 s σ H Q I h;refine Compare_chain (bN (ha K3 s σ H _ I h) fun v s1⟨x,H1,I1,r1,q1⟩=>chain_link (bN (hb K3 s1 σ H1 _ I1 q1) fun u s2⟨y,H2,I2,r2,q2⟩=>
  bN (ho K3 s2 σ H2 x y v u _ I2 r1 r2 q2) fun d s3⟨z,H3,I3,r3,k,e,q3⟩=>?_)) hm
 subst e;cases r3;refine p_ ?_;cases k with
 |false=>exact ite_ff ⟨.bl false,H3,I3,rfl,q3⟩
 |true=>exact ite_tt (chain_last (bN (hc K3 s3 σ H3 _ I3 q3) fun w' s4⟨z',H4,I4,r4,q4⟩=>VJ K3 s4 σ H4 y z' u w' Q I4 r2 r4 q4))
def jR{op Xn:CmpOp}{r r':R2}(ho:eM X (compareOp op) r)(VJ:eM X (compareOp Xn) r')(ha:PE X a ta)(hb:PE X b tb)(hc:PE X c tc)
  (hm:lastMarks [op,Xn] [b,c]=false:=by with_unfolding_all rfl):PT X (.Compare a [op,Xn] [b,c] pos) (Bj (wa r r' ta tb tc)):=by
 refine⟨?_⟩;intro K3 s σ H Q I h;refine isTrue_chain (bN (ha K3 s σ H _ I h) fun v s1⟨x,H1,I1,r1,q1⟩=>test_link (bN (hb K3 s1 σ H1 _ I1 q1) fun u s2⟨y,H2,I2,r2,q2⟩=>
  bN (ho K3 s2 σ H2 x y v u _ I2 r1 r2 q2) fun d s3⟨z,H3,I3,r3,k,e,q3⟩=>?_)) hm
 subst e;cases r3;refine p_ ?_;cases k with
 |false=>
  obtain⟨k',e',q'⟩:=q3;cases e';exact ite_ff ⟨H3,I3,q'⟩
 |true=>
  refine ite_tt (test_last (bN (hc K3 s3 σ H3 _ I3 q3) fun w' s4⟨z',H4,I4,r4,q4⟩=>bN (VJ K3 s4 σ H4 y z' u w' _ I4 r2 r4 q4) fun d' s5 hZZ=>?_));obtain⟨z2,H5,I5,r5,k2,e2,q5⟩:=hZZ;subst e2;cases r5;exact p_ ⟨H5,I5,q5⟩
def Ff(K:ZF)(x:V)(H:Hp)(k:Bool):Prop:=
 match x with
 |.non=>k=false
 |.bl b=>k=b
 |.int i=>k=(i != 0)
 |.str y=>y.length<=sizeLine/\k=((y.length:Int) != 0)
 |.byt y=>y.size<=sizeLine/\k=((y.size:Int) != 0)
 |.ref p=>(∃xs,NQ K H p xs/\k=!xs.isEmpty)\/(∃xs,NL K H p xs/\k=!xs.isEmpty)\/∃kvs,H p=some (.dK kvs)/\k=!kvs.isEmpty
 |_=>False
def qe{κ:Type}{kvs:List (κ×V)}{vs:List (κ×Uw)}(r:KV kvs vs):(!vs.isEmpty)=!kvs.isEmpty:=by
 cases r<;>rfl
def jS{f':List Uw}(r:NV xs f'):(!f'.toArray.isEmpty)=!xs.isEmpty:=by
 cases r<;>simp
def gy:(sizeLine:Nat)<2^63:=by rw[sizeLine_eq];decide
def Cj:Hr X (fun x H Q=>∃k,Ff X.K x H k/\Q k H):=by
 intro K3 s σ H x v Q I rx h;obtain⟨k,e,q⟩:=h;have hl:=gy;have hs:sizeLine=16777216:=sizeLine_eq;cases x with
 |non=>
  cases rx;have e':k=false:=e;subst e';exact truthy_none ⟨H,I,q⟩
 |bl b=>
  cases rx;have e':k=b:=e;subst e';exact p_ ⟨H,I,q⟩
 |int i=>
  obtain⟨t,rfl⟩:=rx;have e':k=(i != 0):=e;subst e';exact PySem.P.truthy_int ⟨H,I,q⟩
 |str y=>
  obtain⟨t,rfl⟩:=rx;obtain⟨hy,e'⟩:y.length<=sizeLine/\k=((y.length:Int) != 0):=e;subst e';exact PySem.P.truthy_str zo ⟨H,I.tok _,q⟩
 |byt y=>
  obtain⟨t,rfl⟩:=rx;obtain⟨hy,e'⟩:y.size<=sizeLine/\k=((y.size:Int) != 0):=e;subst e';exact PySem.W.truthy_bytes zo ⟨H,I.tok _,q⟩
 |ref p=>
  cases rx;have e':(∃xs,NQ X.K H p xs/\k=!xs.isEmpty)\/(∃xs,NL X.K H p xs/\k=!xs.isEmpty)\/∃kvs,H p=some (.dK kvs)/\k=!kvs.isEmpty:=e;rcases e' with⟨xs,hx,e'⟩|⟨xs,hx,e'⟩|⟨kvs,hx,e'⟩
  ·subst e';obtain⟨f',r,pl,hz⟩:=I.list hx;have K4:=r.length;exact wpAny_truthy_list pl.isList (by simp only[JJ];lia) ⟨H,I.tok _,by rw[jS r];exact q⟩
  ·subst e';obtain⟨f',r,pl,hz⟩:=I.tuple hx;have K4:=r.length;exact truthy_tuple pl (by simp only[JJ];lia) ⟨H,I.tok _,by rw[jS r];exact q⟩
  ·subst e';obtain⟨hz,hS,vs,r,m⟩:kvs.length<=sizeLine/\(p==sysModules)=false/\∃vs,KV kvs vs/\s.heap.DictOf (bU X.prog X.w) p vs:=I.hok p _ hx;have K4:kvs.length=vs.length:=Sa r;exact wpAny_truthy_dict hS m zo ⟨H,I.tok _,by rw[qe r];exact q⟩
 |_=>exact(show False from e).elim
def wb(ha:PE X a ta)(he:∀UV,isTrue a X.env UV=(do let v <-UV;standAt a.pos;holding [v] (truthy v))):
  PT X a (fun σ H Q=>ta σ H fun x H'=>∃k,Ff X.K x H' k/\Q k H'):=by
 refine⟨?_⟩;intro K3 s σ H Q I h;exact isTrue_plain (bN (ha K3 s σ H _ I h) fun v s1⟨x,H1,I1,r1,q1⟩=>Cj K3 s1 σ H1 x v Q I1 r1 q1) (he _)
def bY:eM X (binaryOp .Add) (fun x y H Q=>∃i j,x=.str i/\y=.str j/\i.length+j.length<=sizeLine/\Q (.str (i++j)) H):=by
 intro K3 s σ H x y v u Q I rx ry h;obtain⟨i,j,rfl,rfl,hz,q⟩:=h;obtain⟨t,rfl⟩:=rx;obtain⟨t',rfl⟩:=ry;exact add_str (fun t' tk=>⟨.str (i++j),H,I.tok _,⟨_,rfl⟩,q⟩) hz
def dB(r:NV [x] us):∃u,us=[u]/\NY x u:=by
 cases r with
 |cons r1 r2=>cases r2;exact⟨_,rfl,r1⟩
def Bk(r:NV [x,y] us):∃u w',us=[u,w']/\NY x u/\NY y w':=by
 cases r with
 |cons r1 r2=>
  cases r2 with
  |cons r3 r4=>cases r4;exact⟨_,_,rfl,r1,r3⟩
def um(hc:X.calm=true):cH X (.builtin "max") (fun xs H Q=>∃i j,xs=[.int i,.int j]/\Q (.int (if j>i then j else i)) H):=by
 intro K3 s σ H xs us Q I r h;obtain⟨i,j,rfl,q⟩:=h;obtain⟨u,w',rfl,⟨t,rfl⟩,⟨t',rfl⟩⟩:=Bk r;refine max_two_ints (I.ok.hd hc) fun h' tk k=>⟨_,H,I.kept k,?_,q⟩;by_cases hj:j>i
 ·rw[g_ hj,g_ hj];exact⟨_,rfl⟩
 ·rw[e_ hj,e_ hj];exact⟨_,rfl⟩
def uo(hc:X.calm=true):cH X (.builtin "min") (fun xs H Q=>∃i j,xs=[.int i,.int j]/\Q (.int (if j<i then j else i)) H):=by
 intro K3 s σ H xs us Q I r h;obtain⟨i,j,rfl,q⟩:=h;obtain⟨u,w',rfl,⟨t,rfl⟩,⟨t',rfl⟩⟩:=Bk r;refine min_two_ints (I.ok.hd hc) fun h' tk k=>⟨_,H,I.kept k,?_,q⟩;by_cases hj:j<i
 ·rw[g_ hj,g_ hj];exact⟨_,rfl⟩
 ·rw[e_ hj,e_ hj];exact⟨_,rfl⟩
def uq:cH X (.type "int") (fun xs H Q=>(∃i,xs=[.int i]/\Q (.int i) H)\/∃k,xs=[.bl k]/\Q (.int (if k then 1 else 0)) H):=by
 intro K3 s σ H xs us Q I r h;rcases h with⟨i,rfl,q⟩|⟨k,rfl,q⟩
 ·obtain⟨u,rfl,t,rfl⟩:=dB r;exact call_int_int ⟨.int i,H,I,⟨_,rfl⟩,q⟩
 ·obtain⟨u,rfl,r1⟩:=dB r;cases r1;exact call_int_bool ⟨.int (if k then 1 else 0),H,I.tok _,⟨_,rfl⟩,q⟩
def lZ:cH X (.type "str") (fun xs H Q=>∃i,xs=[.int i]/\i.natAbs.log2<1920/\Q (.str (toString i)) H):=by
 intro K3 s σ H xs us Q I r h;obtain⟨i,rfl,hz,q⟩:=h;obtain⟨u,rfl,t,rfl⟩:=dB r;exact PySem.P.str_of_int hz ⟨.str _,H,I.tok _,⟨_,rfl⟩,q⟩
end
structure PV(h:Heap)(x dx C:Ux)(mA:Str->Option Uw):Prop where
 obj:h.get? x=some (PySem.W.instObj C dx)
 ns:h.Ns1 dx mA
 ne:dx≠x
variable{mA:Str->Option Uw}{dx:Ux}
def ur(n:h.Ns1 dx mA):∃od,h.get? dx=some od/\∀name,PySem.W.lookIn name od=some (mA name):=by
 obtain⟨o,es,ep,ho,hd,hk,_,hm⟩:=n;refine⟨o,ho,fun name=>?_⟩;have e:=hm name;unfold nsFind findBy at e;rw[<-Sl]at e;unfold PySem.W.lookIn;rw[hd];dsimp only;split
 ·rename_i y q;rw[q]at e;exact i_ some e
 ·rename_i q;rw[q]at e;have a:es.toList.any (·.refKey)=false:=by
   rw[List.any_eq_false];intro y hy;obtain⟨z,t,XI⟩:=hk y (Array.mem_toList_iff.mp hy);simp[DictEntry.refKey,XI]
  have a':¬es.toList.any (·.refKey)=true:=by rw[a];exact JK
  rw[e_ a'];exact i_ some e
def PV.look{x dx C:Ux}(I:PV h x dx C mA):∃od,PySem.W.InstAt h x (PySem.W.instObj C dx) C (some od)/\∀name,PySem.W.lookIn name od=some (mA name):=
 let⟨od,ho,hl⟩:=ur I.ns
 ⟨od,⟨I.obj,rfl,rfl,ho⟩,hl⟩
section
variable{prog:Uz}{w:UA}{A:UB}{E:Uw->Uy->Prop}{s:Uy}{K:ZF}{x dx C f:Ux}{mA:Str->Option Uw}{name:Str}{v:Uw}
def zx{expr:Bool}{Q:Uw->Uy->Prop}(X:K.In s.heap)(I:PV s.heap x dx C mA)(hg:PySem.W.plainGet K C name=true)(hh:PySem.W.hasDictIn K C=true)
  (ha:PySem.W.findIn K (.ref C) name=some none) (hv:mA name=some v) (W_:PySem.W.handedIn v=true) (h:Q v {s with toks:=s.toks+1}) :
  wpAny (model prog w) A (getAttr (.ref x) name expr) Q E s:=by
 obtain⟨od,J,hl⟩:=I.look;exact PySem.W.get_value X J (Sb hg).1 (PySem.W.findObj_own hh ha rfl (by rw[hl,hv])) W_ h
def we{pl:Sem Bool}{Q:Uw×List Uw->Uy->Prop}(X:K.In s.heap)(I:PV s.heap x dx C mA)(hg:PySem.W.plainGet K C name=true)
  (hf:PySem.W.findIn K (.ref C) name=some (some (.ref f))) (ht:PySem.W.isFn K (.ref f)=true) (hv:mA name=none) (h:Q (.ref f,[.ref x]) s) :
  wpAny (model prog w) A (getMethod (.ref x) name pl) Q E s:=by
 obtain⟨od,J,hl⟩:=I.look;exact PySem.W.method_fn X J (Sb hg).1 (Sb hg).2 hf (beq_iff_eq.mp ht) (by show(PySem.W.lookIn name od).map (·.isSome)=some false;rw[hl,hv];rfl) h
def zy{ns:UD}{Q:Unit->Uy->Prop}(X:K.In s.heap)(I:PV s.heap x dx C mA)
  (hs:PySem.W.findIn K (.ref C) "__setattr__"=some (some (.builtin "object.__setattr__"))) (hp:PySem.W.plainOver K C=true) (ht:PySem.W.takerIn K C name=some none) (hh:PySem.W.hasDictIn K C=true)
  (hw:PySem.Within mA ns) (hsz:ns.length<=sizeLine)
  (h:∀h',PV h' x dx C (fun y=>if y=name then some v else mA y)->Heap.SameBut dx s.heap h'->Q () {s with heap:=h',toks:=s.toks+2}) :
  wpAny (model prog w) A (setAttr (.ref x) name v) Q E s:=by
 obtain⟨od,J,hl⟩:=I.look;refine PySem.W.set_plain X J hs (PySem.W.osa_open (s:={s with toks:=s.toks+1}) (r:=none) X J hp ht fun b=>?_);obtain⟨cd,hc,Yx⟩:=PySem.W.any_some hh;have hx:s.heap.get? x=some ⟨.ref C,some dx,.plain,#[]⟩:=I.obj;refine a_ (c_ (a_ (a_ (wpAny_loadPart hx (a_ (PySem.W.Looks.here (s:={s with toks:=s.toks+1}) (PySem.W.looks_clsIn X hc) ?_))))));rw[Yx];refine c_ (a:=some dx) (a_ (c_ (a_ ?_)));refine wpAny_nsSet1 (s:={s with toks:=s.toks+1}) I.ns fun h' XV Vq=>?_;obtain⟨oD,esD,epD,hoD,hdD,hcD⟩:=XV.count (PySem.Within.cons name v hw);refine a_ (wpAny_lookBehind hoD (by rw[hdD];exact pastItsLine_dict (J4 hcD (by rw[JX];lia))) ?_);exact c_ (h _ ⟨(Vq.2 _ (R0 I.ne)).trans I.obj,XV,I.ne⟩ Vq)
def wf{R:Result->Uy->Prop}{vs:List Uw}{kw:List (Str×Uw)}(X:K.In s.heap)(hm:PySem.W.makesIn K C=true)
  (hi:PySem.W.findIn K (.ref C) "__init__"=some (some (.ref f))) (hf:PySem.W.typeIn K (.ref f)=some (.type "function"))
  (h:codeAny (model prog w) (A.under (.builtin "type.__call__" ⟨.ref C::vs,kw⟩)) (.call (.ref f) ⟨.ref (s.heap.objs.size+1)::vs,kw⟩) (PySem.W.InitBack (s.heap.objs.size+1) R)
   {s with heap:=(s.heap.push PySem.W.emptyDict).push (PySem.W.instObj C s.heap.objs.size)}) :
  codeAny (model prog w) A (.call (.ref C) ⟨vs,kw⟩) R s:=by
 obtain⟨hh,g,d,t,os⟩:=s;exact PySem.W.make_core (PySem.W.makes_of X hm) (PySem.W.looks_findIn X hi) (fun self=>PySem.W.bind_fn X self hf) (.inl rfl) h
end
def aT(f:Str)(v:V):List (Str×V)->List (Str×V)
 |[]=>[(f,v)]
 |(g,x)::r=>if g=f then(g,v)::r else(g,x)::aT f v r
def jf(f g:Str)(v:V):∀fs:List (Str×V),(aT f v fs).lookup g=if g=f then some v else fs.lookup g
 |[]=>by
  show List.lookup g [(f,v)]=_;by_cases h:g=f
  ·have hb:(g==f)=true:=beq_iff_eq.mpr h;simp only[List.lookup,hb,g_ h]
  ·have hb:(g==f)=false:=beq_eq_false_iff_ne.mpr h;simp only[List.lookup,hb,e_ h]
 |(k,x)::r=>by
  have ih:=jf f g v r;rw[show aT f v ((k,x)::r)=(if k=f then(k,v)::r else(k,x)::aT f v r)from rfl];by_cases hk:k=f
  ·rw[g_ hk];by_cases h:g=k
   ·have hb:(g==k)=true:=beq_iff_eq.mpr h;simp only[List.lookup,hb,g_ (h.trans hk)]
   ·have hb:(g==k)=false:=beq_eq_false_iff_ne.mpr h;simp only[List.lookup,hb,e_ (fun e:g=f=>h (e.trans hk.symm))]
  ·rw[e_ hk];by_cases h:g=k
   ·have hb:(g==k)=true:=beq_iff_eq.mpr h;simp only[List.lookup,hb,e_ (fun e:g=f=>hk (h.symm.trans e))]
   ·have hb:(g==k)=false:=beq_eq_false_iff_ne.mpr h;simp only[List.lookup,hb];exact ih
def iD(f:Str)(v:V):∀fs:List (Str×V),f∈(aT f v fs).map (·.1)/\∀g,g∈fs.map (·.1)->g∈(aT f v fs).map (·.1)
 |[]=>⟨by simp[aT],fun g h=>by simp at h⟩
 |(k,x)::r=>by
  obtain⟨i1,i2⟩:=iD f v r;rw[show aT f v ((k,x)::r)=(if k=f then(k,v)::r else(k,x)::aT f v r)from rfl];by_cases hk:k=f
  ·rw[g_ hk];subst hk;exact⟨by simp,fun g h=>by simpa using h⟩
  ·rw[e_ hk];refine⟨?_,fun g h=>?_⟩
   ·rw[J9];exact JV _ i1
   ·rw[J9]at h⊢;rcases JT.mp h with e|e
    ·exact JT.mpr (.inl e)
    ·exact JV _ (i2 g e)
def jg(f:Str)(v:V):∀fs:List (Str×V),(aT f v fs).length<=fs.length+1
 |[]=>by simp[aT]
 |(k,x)::r=>by
  have ih:=jg f v r;rw[show aT f v ((k,x)::r)=(if k=f then(k,v)::r else(k,x)::aT f v r)from rfl];by_cases hk:k=f
  ·rw[g_ hk,JX,JX];lia
  ·rw[e_ hk,JX,JX];lia
variable{v:V}
def Oj.some_of{o:Option Uw}(r:Oj (some v) o):∃u,o=some u/\NY v u:=by
 cases o with
 |none=>exact(show False from r).elim
 |some u=>exact⟨u,rfl,r⟩
def Oj.none_of{o:Option Uw}(r:Oj none o):o=none:=by
 cases o with
 |none=>rfl
 |some u=>exact(show False from r).elim
def ut(r:NY v u):PySem.W.handedIn u=true:=by
 cases v with
 |non=>cases(show u=Value.none from r);rfl
 |bl b=>cases(show u=Value.bool b from r);rfl
 |int i=>obtain⟨t,e⟩:=(show ∃t,u=Value.int i t from r);cases e;rfl
 |str x=>obtain⟨t,e⟩:=(show ∃t,u=Value.str x t from r);cases e;rfl
 |byt b=>obtain⟨t,e⟩:=(show ∃t,u=Value.bytes b t from r);cases e;rfl
 |flt b=>obtain⟨t,e⟩:=(show ∃t,u=Value.float b t from r);cases e;rfl
 |ref a=>cases(show u=Value.ref a from r);rfl
 |ty n=>cases(show u=Value.type n from r);rfl
section
variable{P:Uz}{w:UA}{H H':Hp}{h h':Heap}{a C dx:Ux}{fs XY:List (Str×V)}
def jv(hok:Oq P w H h)(e:H a=some (.ins C dx fs)):∃mA,PV h a dx C mA/\(∀f,Oj (fs.lookup f) (mA f))/\PySem.Within mA (fs.map (·.1))/\fs.length<=1000/\H dx=some (.own a):=by
 obtain⟨d,z,ne,ob,mA,n,r,q⟩:=(show N2 P w H h a (.ins C dx fs)from hok a _ e);exact⟨mA,⟨ob,n,ne⟩,r,q,z,d⟩
end
structure Px(K:ZF)(C:Ux):Prop where
 pg:PySem.W.plainGet K C Str.empty=true
 hd:PySem.W.hasDictIn K C=true
 po:PySem.W.plainOver K C=true
 sa:PySem.W.findIn K (.ref C) "__setattr__"=some (some (.builtin "object.__setattr__"))
variable{C:Ux}
def Px.get(c:Px K C)(f:Str):PySem.W.plainGet K C f=true:=c.pg
def N3(K:ZF)(C:Ux)(f:Str):Prop:=PySem.W.findIn K (.ref C) f=some none
variable{f:Str}
def N3.taker(n:N3 K C f):PySem.W.takerIn K C f=some none:=by
 unfold PySem.W.takerIn;rw[show PySem.W.findIn K (.ref C) f=some none from n];rfl
structure wg(K:ZF)(C:Ux)(m:Str)(f:Ux):Prop where
 at_:PySem.W.findIn K (.ref C) m=some (some (.ref f))
 fn:PySem.W.isFn K (.ref f)=true
 kp:PySem.W.keepIn K (.ref f)=true
section
variable{X:Cx}{K3:List (Ux×Obj)}{σ:St}{H:Hp}{s:Uy}{a C dx:Ux}{fs:List (Str×V)}{f:Str}{v:V}{A:UB}{E:Uw->Uy->Prop}
def jT{b:Bool}{Q:Uw->Uy->Prop}(I:NO X K3 σ H s)(e:H a=some (.ins C dx fs))(c:Px X.K C)(n:N3 X.K C f)(l:fs.lookup f=some v)
  (h:∀u s',NO X K3 σ H s'->NY v u->Q u s'):wpAny (model X.prog X.w) A (getAttr (.ref a) f b) Q E s:=by
 obtain⟨mA,O,r,_,_,_⟩:=jv I.hok e;obtain⟨u,hu,ru⟩:=Oj.some_of (v:=v) (o:=mA f) (by rw[<-l];exact r f);exact zx I.kIn O (c.get f) c.hd n hu (ut ru) (h u _ (I.tok _) ru)
def gz{m:Str}{g:Ux}{pl:Sem Bool}{Q:Uw×List Uw->Uy->Prop}(I:NO X K3 σ H s)(e:H a=some (.ins C dx fs))(c:Px X.K C)(k:wg X.K C m g)(l:fs.lookup m=none)
  (h:Q (.ref g,[.ref a]) s):wpAny (model X.prog X.w) A (getMethod (.ref a) m pl) Q E s:=by
 obtain⟨mA,O,r,_,_,_⟩:=jv I.hok e;have hn:mA m=none:=Oj.none_of (by rw[<-l];exact r m);exact we I.kIn O (c.get m) k.at_ k.fn hn h
def jU{Q:Unit->Uy->Prop}(I:NO X K3 σ H s)(e:H a=some (.ins C dx fs))(c:Px X.K C)(n:N3 X.K C f)(hl:fs.length<1000)(ry:NY y u)
  (h:∀s',NO X K3 σ (az H a (.ins C dx (aT f y fs))) s'->Q () s'):wpAny (model X.prog X.w) A (setAttr (.ref a) f u) Q E s:=by
 obtain⟨mA,O,r,wi,_,ho⟩:=jv I.hok e;have hz:(fs.map (·.1)).length<=sizeLine:=by rw[JC,sizeLine_eq];lia
 refine zy I.kIn O c.sa c.po n.taker c.hd wi hz fun h' O' sb=>h _ ?_;have hd:∃o,h'.get? dx=some o:=let⟨o,_,_,e',_⟩:=O'.ns;⟨o,e'⟩;refine I.write (x:=a) (e:=dx) (by rw[e];exact True.intro) (.inr ho) (fun b q hb z=>(sb.2 b hb).trans z) hd ?_;refine⟨by rw[ao O.ne];exact ho,?_,O.ne,O'.obj,_,O'.ns,fun g=>?_,fun g hg=>?_⟩
 ·have:=jg f y fs;lia
 ·show Oj ((aT f y fs).lookup g) (if g=f then some u else mA g);rw[jf];by_cases q:g=f
  ·rw[g_ q,g_ q];exact ry
  ·rw[e_ q,e_ q];exact r g
 ·by_cases q:g=f
  ·rw[q];exact(iD f y fs).1
  ·refine(iD f y fs).2 g (wi g fun z=>hg ?_);show(if g=f then some u else mA g)=none;rw[e_ q];exact z
def NO.made(I:NO X K3 σ H s):NO X K3 σ (az (az H s.heap.objs.size (.own (s.heap.objs.size+1))) (s.heap.objs.size+1) (.ins C s.heap.objs.size []))
  {s with heap:=(s.heap.push PySem.W.emptyDict).push (PySem.W.instObj C s.heap.objs.size)}:=by
 have e1:(s.heap.push PySem.W.emptyDict).get? s.heap.objs.size=some PySem.W.emptyDict:=JG s.heap rfl;have e2:((s.heap.push PySem.W.emptyDict).push (PySem.W.instObj C s.heap.objs.size)).get? (s.heap.objs.size+1)=some (PySem.W.instObj C s.heap.objs.size):=by
  have:=JG (s.heap.push PySem.W.emptyDict) (o:=PySem.W.instObj C s.heap.objs.size) rfl
  rwa [Kl]at this
 have e3:(s.heap.push PySem.W.emptyDict).Ns s.heap.objs.size (fun _=>none):=⟨PySem.W.emptyDict,#[],_,e1,rfl,(fun e he=>absurd he (by simp)),fun _=>rfl⟩;have I1:=I.laid (a:=s.heap.objs.size) (o:=.own (s.heap.objs.size+1)) (h':=s.heap.push PySem.W.emptyDict) (t':=s.toks) (fun b u q=>Jz _ q) (JB _) ⟨_,e1⟩;refine I1.laid (a:=s.heap.objs.size+1) (o:=.ins C s.heap.objs.size []) (t':=s.toks) (fun b u q=>Jz _ q) (Nat.le_of_eq (Kl _ _)) ?_;have ne:s.heap.objs.size≠s.heap.objs.size+1:=JO (Kv _);refine⟨by rw[ao ne,ac],JN _,ne,e2,fun _=>none,(Heap.Ns1.of_empty e3).at fun o q=>Jz _ q,fun _=>True.intro,fun y hy=>absurd rfl hy⟩
def zA{prog:Uz}{w:UA}{env:Env}{pos:Pos}{s:Uy}{Q:Uw->Uy->Prop}(hb:attributeBase e f env (eval e env)=eval e env)
  (h:wpAny (model prog w) A (eval e env) (fun o s₁=>wpAny (model prog w) A (getAttr o f true) Q E s₁) E s):wpAny (model prog w) A (eval (.Attribute e f pos) env) Q E s:=
 Attribute_any_ h (by rw[arm_eval_Attribute,hb])
end
inductive Bm(K:ZF)(f:Str)(Q:VK)(x:V)(H1:Hp):Prop
 |mk(a C dx fs v:_):x=.ref a->H1 a=some (.ins C dx fs)->Px K C->N3 K C f->fs.lookup f=some v->Q v H1->Bm K f Q x H1
def Ht(K:ZF)(ta:TE)(f:Str):TE:=fun σ H Q=>ta σ H fun x H1=>Bm K f Q x H1
inductive Bn(K:ZF)(f:Str)(D:fh)(σ:St)(y:V)(x:V)(H2:Hp):Prop
 |mk(a C dx fs:_):x=.ref a->H2 a=some (.ins C dx fs)->Px K C->N3 K C f->fs.length<1000->D.nx σ (az H2 a (.ins C dx (aT f y fs)))->Bn K f D σ y x H2
def Hu(K:ZF)(ta tv:TE)(f:Str):TS:=fun D σ H=>tv σ H fun y H1=>ta σ H1 fun x H2=>Bn K f D σ y x H2
def Fg(X:Cx)(op:Operator)(rd:V->V->Hp->VK->Prop):Prop:=
 ∀(K3:List (Ux×Obj))(s:Uy)(σ:St)(H:Hp)(x y:V)(u v:Uw)(Q:VK),NO X K3 σ H s->NY x u->NY y v->rd x y H Q->wpAny (model X.prog X.w) X.A (inplaceOp op u v) (EP X K3 σ Q) X.xe s
inductive oM(K:ZF)(tv:TE)(rd:V->V->Hp->VK->Prop)(f:Str)(D:fh)(σ:St)(x:V)(H1:Hp):Prop
 |mk(a C dx fs v:_):x=.ref a->H1 a=some (.ins C dx fs)->Px K C->N3 K C f->fs.lookup f=some v->(tv σ H1 fun y H2=>rd v y H2 fun z H3=>∃Vu XY,H3 a=some (.ins C Vu XY)/\XY.length<1000/\D.nx σ (az H3 a (.ins C Vu (aT f z XY))))->oM K tv rd f D σ x H1
def zC(K:ZF)(ta tv:TE)(rd:V->V->Hp->VK->Prop)(f:Str):TS:=fun D σ H=>ta σ H fun x H1=>oM K tv rd f D σ x H1
section
variable{X:Cx}{o e value:Expr}{f:Str}{pos U1 YK:Pos}{ta tv:TE}
def aK(he:PE X e ta)(hb:attributeBase e f X.env (eval e X.env)=eval e X.env):PE X (.Attribute e f pos) (Ht X.K ta f):=by
 refine⟨?_⟩;intro K3 s σ H Q I h;refine zA hb (bN (he K3 s σ H _ I h) fun u s1 hZZ=>?_);obtain⟨x,H1,I1,rx,a,C,dx,fs,v,ex,ea,c,n,l,q⟩:=hZZ;subst ex;obtain rfl:u=Value.ref a:=rx;exact jT I1 ea c n l fun u' s2 I2 ru=>⟨v,H1,I2,ru,q⟩
def bQ(ha:PE X o ta)(hv:PE X value tv)(hs:swapsWith value (some (.Attribute o f U1)) pos.line X.env=pure false):PS X (.Assign [.Attribute o f U1] value pos) (Hu X.K ta tv f):=by
 refine⟨?_⟩;intro K3 s σ H D I h;refine plainObj_wpAny_Assign_Attribute (bN (hv K3 s σ H _ I h) fun u s1⟨y,H1,I1,ry,q⟩=>bN (ha K3 s1 σ H1 _ I1 q) fun ov s2 hZZ=>?_) hs;obtain⟨x,H2,I2,rx,a,C,dx,fs,ex,ea,c,n,l,q2⟩:=hZZ;subst ex;obtain rfl:ov=Value.ref a:=rx;exact jU I2 ea c n l ry fun s3 I3=>⟨σ,_,I3,q2⟩
def iE{op:Operator}{rd:V->V->Hp->VK->Prop}(ha:PE X o ta)(hv:PE X value tv)(hop:Fg X op rd):PS X (.AugAssign (.Attribute o f YK) op value pos) (zC X.K ta tv rd f):=by
 refine⟨?_⟩;intro K3 s σ H D I h;refine wpAny_AugAssign_AttributeAny (bN (ha K3 s σ H _ I h) fun ov s1 hZZ=>?_);obtain⟨x,H1,I1,rx,a,C,dx,fs,v,ex,ea,c,n,l,q⟩:=hZZ;subst ex;obtain rfl:ov=Value.ref a:=rx;refine jT I1 ea c n l fun u s2 I2 ru=>bN (hv K3 s2 σ H1 _ I2 q) fun w3 s3⟨y,H2,I3,ry,q3⟩=>bN (hop K3 s3 σ H2 v y u w3 _ I3 ru ry q3) fun w4 s4 hZZ=>?_;obtain⟨z,H3,I4,rz,Vu,XY,ea',l',q4⟩:=hZZ;exact jU I4 ea' c n l' rz fun s5 I5=>⟨σ,_,I5,q4⟩
inductive Fh(x:V)(y:V)(H:Hp)(Q:VK):Prop
 |mk(i j:_):x=.int i->y=.int j->Q (.int (i+j)) H->Fh x y H Q
def qf:Fg X .Add Fh:=by
 rintro K3 s σ H x y u v Q I rx ry ⟨i,j,rfl,rfl,q⟩;obtain⟨t,rfl⟩:=(show ∃t,u=Value.int i t from rx);obtain⟨t',rfl⟩:=(show ∃t',v=Value.int j t' from ry);exact PyProof.Rows.iadd_int ⟨.int (i+j),H,I.tok _,⟨_,rfl⟩,q⟩
end
section
variable{X:Cx}{K3:List (Ux×Obj)}{σ:St}{H:Hp}{s:Uy}{A:UB}{E:Uw->Uy->Prop}{Q:Uw->Uy->Prop}{c:Uw}{b:Bool}
inductive gA(K:ZF)(H:Hp):V->Uw->Prop where
 |non:gA K H .non (.type "NoneType")
 |bl (x:Bool):gA K H (.bl x) (.type "bool")
 |int (i:Int):gA K H (.int i) (.type "int")
 |str (x:Str):gA K H (.str x) (.type "str")
 |flt (x:UInt64):gA K H (.flt x) (.type "float")
 |lst {a:Ux} {xs:UG} (e:H a=some (.lst xs)):gA K H (.ref a) (.type "list")
 |frz {a:Ux} {o:Obj} {xs:UG} (e:H a=some (.frz o (.lst xs))):gA K H (.ref a) (.type "list")
 |tup {a:Ux} {xs:UG} (e:H a=some (.tup xs)):gA K H (.ref a) (.type "tuple")
 |dK {a:Ux} {kvs:List (dm×V)} (e:H a=some (.dK kvs)):gA K H (.ref a) (.type "dict")
 |dT {a:Ux} {kvs:List (List dm×V)} (e:H a=some (.dT kvs)):gA K H (.ref a) (.type "dict")
 |ins {a C dx:Ux} {fs:List (Str×V)} (e:H a=some (.ins C dx fs)) (cl:Px K C) (ha:PySem.W.findIn K (.ref C) "__class__"=some (some (.builtin "object.__class__")))
   (hn:PySem.W.specialIn K (.builtin "object.__class__") "__get__"=some (some (.builtin "getset_descriptor.__get__"))) (Zj:PySem.W.takesIn K (.builtin "object.__class__")=some true)
   (hm:PySem.W.mroIn K C (.type "object")=some true):gA K H (.ref a) (.ref C)
def uu{u t:Uw}(I:NO X K3 σ H s)(rx:NY x u)(ty:gA X.K H x t)(e:PySem.W.kitOne X.K t c=some b)(h:∀tk,Q (.bool b) {s with toks:=tk}):
  wpAny (model X.prog X.w) A (call (.builtin "isinstance") [u,c]) Q E s:=by
 cases ty with
 |non=>cases(show u=Value.none from rx);exact Kf PySem.W.kitx_none I.kIn True.intro e (fun z=>nomatch z) h
 |bl y=>cases(show u=Value.bool y from rx);exact Kf PySem.W.kitx_bool I.kIn True.intro e (fun z=>nomatch z) h
 |int i=>obtain⟨t,q⟩:=(show ∃t,u=Value.int i t from rx);cases q;exact Kf PySem.W.kitx_int I.kIn True.intro e (fun z=>nomatch z) h
 |str y=>obtain⟨t,q⟩:=(show ∃t,u=Value.str y t from rx);cases q;exact Kf PySem.W.kitx_str I.kIn True.intro e (fun z=>nomatch z) h
 |flt y=>obtain⟨t,q⟩:=(show ∃t,u=Value.float y t from rx);cases q;exact Kf PySem.W.kitx_float I.kIn True.intro e (fun z=>nomatch z) h
 |@lst a xs ea=>
  cases(show u=Value.ref a from rx);obtain⟨_,_,n,_,h1⟩:=(show N2 X.prog X.w H s.heap a (.lst xs)from I.hok a _ ea);exact Kf PySem.W.kitx_list I.kIn ⟨_,h1,rfl⟩ e (fun z=>nomatch z) h
 |@frz a ob xs ea=>
  cases(show u=Value.ref a from rx);obtain⟨_,_,_,n,_,h1⟩:=(show N2 X.prog X.w H s.heap a (.frz ob (.lst xs))from I.hok a _ ea);exact Kf PySem.W.kitx_list I.kIn ⟨_,h1,rfl⟩ e (fun z=>nomatch z) h
 |@tup a xs ea=>
  cases(show u=Value.ref a from rx);obtain⟨_,_,_,p⟩:=(show N2 X.prog X.w H s.heap a (.tup xs)from I.hok a _ ea);obtain⟨o,h1,h2,_⟩:=p;exact Kf PySem.W.kitx_tuple I.kIn ⟨o,h1,(KF h2).1⟩ e (fun z=>nomatch z) h
 |@dK a kvs ea=>
  cases(show u=Value.ref a from rx);obtain⟨_,_,vs,_,p⟩:=(show N2 X.prog X.w H s.heap a (.dK kvs)from I.hok a _ ea);obtain⟨o,es,ep,h1,h2,_⟩:=p;exact Kf PySem.W.kitx_dict I.kIn ⟨o,h1,h2.1⟩ e (fun z=>nomatch z) h
 |@dT a kvs ea=>
  cases(show u=Value.ref a from rx);obtain⟨_,_,xs,_,o,es,ep,h1,h2,_⟩:=(show N2 X.prog X.w H s.heap a (.dT kvs)from I.hok a _ ea);exact Kf PySem.W.kitx_dict I.kIn ⟨o,h1,h2.1⟩ e (fun z=>nomatch z) h
 |@ins a C dx fs ea cl ha hn Zj hm=>
  cases(show u=Value.ref a from rx);obtain⟨mA,O,_⟩:=jv I.hok ea;obtain⟨od,J,_⟩:=O.look;exact Kf (PySem.W.kitx_own (cl.get _) cl.hd ha hn Zj hm) I.kIn J e (fun z=>nomatch z) h
end
structure NZ(k:Nat)(A:UB):Prop where
 hd:A.handled=none
 dp:A.depth+3*k+5<recursionLimit
 un:A.units+16*k+200<cLine
def NZ.mono{j k:Nat}(r:NZ k A)(h:j<=k):NZ j A:=⟨r.hd,by have:=r.dp;lia,by have:=r.un;lia⟩
def NZ.m{j k:Nat}(r:NZ k A)(h:j<=k:=by decide):NZ j A:=r.mono h
def NZ.deeper{k:Nat}(r:NZ (k+1) A)(env:Env):NZ k (A.deeper env):=
 ⟨r.hd,by have:=r.dp;show A.depth+1+3*k+5<_;lia,by have:=r.un;show A.units+3+16*k+200<_;lia⟩
variable{kw:List (Str×Uw)}
def qh:(A.under (.builtin "type.__call__" ⟨.ref C::us,kw⟩)).depth=A.depth+1:=by
 first|rfl|simp[Around.under,Code.weight,Code.isCreation,Code.isGuard,Code.isCaller,Code.frames,Code.isFrame,guardIds]
def qi:(A.under (.builtin "type.__call__" ⟨.ref C::us,kw⟩)).units=A.units+1:=by
 first|rfl|simp[Around.under,Code.cUnits,Code.frames,Code.isFrame]
def NZ.make{k:Nat}(r:NZ (k+1) A)(C:Ux)(us:List Uw)(kw:List (Str×Uw)):NZ k (A.under (.builtin "type.__call__" ⟨.ref C::us,kw⟩)):=
 ⟨r.hd,by have:=r.dp;rw[qh];lia,by have:=r.un;rw[qi];lia⟩
def NZ.depth{k:Nat}(r:NZ k A):A.depth<recursionLimit:=by have:=r.dp;lia
def NZ.units{k:Nat}(r:NZ k A):A.units+64<cLine:=by have:=r.un;lia
def Ck:TA:=fun _ H Q=>Q [] H
def Bo(ta:TE)(tr:TA):TA:=fun σ H Q=>ta σ H fun x H1=>tr σ H1 fun xs H2=>Q (x::xs) H2
section
variable{X:Cx}{e:Expr}{es:List Expr}{te:TE}{t:TA}{pos:Pos}
def ab:PA X [] Ck:=⟨fun _ _ _ _ H Q I h=>SF ⟨[],H,I,.nil,h⟩⟩
def aa(ha:PE X e te)(hr:PA X es t)(hs:starEach (e::es) X.env=(false,eval e X.env)::starEach es X.env:=by rfl):PA X (e::es) (Bo te t):=by
 refine⟨?_⟩;intro pos K3 s σ H Q I h;rw[hs];show wpAny _ _ (spliced ((false,eval e X.env)::backTo pos (starEach es X.env))) _ _ s;refine KW (bN (ha K3 s σ H _ I h) fun u s1 hZZ=>?_);obtain⟨x,H1,I1,r1,q1⟩:=hZZ;exact bN (hr pos K3 s1 σ H1 _ I1 q1) fun us s2⟨xs,H2,I2,r2,q2⟩=>⟨x::xs,H2,I2,.cons r1 r2,q2⟩
def Hv(t:TA):TE:=fun σ H Q=>t σ H fun xs H1=>xs.length<=sizeLine/\∀p,H1 p=none->Q (.ref p) (az H1 p (.tup xs))
def Hw(t:TA):TE:=fun σ H Q=>t σ H fun xs H1=>xs.length<=sizeLine/\∀p,H1 p=none->Q (.ref p) (az H1 p (.lst xs))
def av{x1}(h:PA X es t):PE X (.Tuple es x1 pos) (Hv t):=by
 refine⟨?_⟩;intro K3 s σ H Q I hq;refine wpAny_Tuple_spliced (bN (h pos K3 s σ H _ I hq) fun us s1⟨xs,H1,I1,r,z,q⟩=>⟨by rw[<-r.length];exact z,?_⟩);have hf:H1 s1.heap.objs.size=none:=I1.hok.fresh (JB _);refine⟨.ref s1.heap.objs.size,az H1 s1.heap.objs.size (.tup xs),I1.laid (t':=s1.toks) (fun b u e=>Jz _ e) (JB _) ?_,rfl,q _ hf⟩;exact⟨z,us,r,⟨_,JG _ rfl,rfl,_,rfl⟩⟩
def bF(h:PA X es t):PE X (.List es pos) (Hw t):=by
 refine⟨?_⟩;intro K3 s σ H Q I hq;refine wpAny_List_spliced (bN (h pos K3 s σ H _ I hq) fun us s1⟨xs,H1,I1,r,z,q⟩=>⟨by rw[<-r.length];exact z,?_⟩);have hf:H1 s1.heap.objs.size=none:=I1.hok.fresh (JB _);refine⟨.ref s1.heap.objs.size,az H1 s1.heap.objs.size (.lst xs),I1.laid (t':=s1.toks) (fun b u e=>Jz _ e) (JB _) ?_,rfl,q _ hf⟩;exact⟨z,us,0,r,JG _ rfl⟩
end
abbrev Sp:=UG->Hp->VK->XK->Prop
abbrev uw:=List Env->Hp->Uy->XK->Uw->Uy->Prop
structure P6(P:Uz)(w:UA)(K:ZF)(mg:Str->Option Uw)(base:Heap)(A:UB)(outer:List Env)(s:Uy)(H:Hp):Prop where
 frames:A.frames=some outer
 mod:Mod K mg base
 bs:∀b o,base.get? b=some o->s.heap.get? b=some o/\H b=none
 bsz:base.objs.size<=s.heap.objs.size
 funs:s.heap.FunFrames base outer
 frf:∀b∈oH outer,H b=none
 hok:Oq P w H s.heap
 bare:AllBare s.gens
inductive CE(outer:List Env)(P:Uz)(w:UA)(H:Hp)(s:Uy)(Q:VK)(u:Uw)(s':Uy):Prop
 |mk(v H':_):s'.os=s.os->AllBare s'.gens->Un (oH outer) [] H H' s.heap s'.heap->Oq P w H' s'.heap->NY v u->Q v H'->CE outer P w H s Q u s'
def CR(CX:uw)(outer:List Env)(P:Uz)(w:UA)(H:Hp)(s:Uy)(Q:VK)(E:XK)(r:Result)(s':Uy):Prop:=
 match r with
 |.ok (.ret u)=>CE outer P w H s Q u s'
 |.ok _=>False
 |.error e=>CX outer H s E e s'
structure NN(P:Uz)(w:UA)(K:ZF)(mg:Str->Option Uw)(base:Heap)(CX:uw)(k:Nat)(f:Ux)(fd:UC)(ps:UD)(sp:Sp):Prop where
 len:∀vs H Q E,sp vs H Q E->vs.length=ps.length
 run:∀(A:UB)(outer:List Env)(s:Uy)(H:Hp)(args:Args)(us:List Uw)(vs:UG)(Q:VK)(E:XK),NZ k A->P6 P w K mg base A outer s H->BindsTo s fd args (ps.zip us)->NV vs us->sp vs H Q E->
  codeAny (model P w) A (.call (.ref f) args) (CR CX outer P w H s Q E) s
variable{ps:UD}{fd:UC}{CX:uw}{base:Heap}{mg:Str->Option Uw}
def NN.mono{j k:Nat}{f:Ux}{sp:Sp}(F:NN P w K mg base CX j f fd ps sp)(h:j<=k):
  NN P w K mg base CX k f fd ps sp:=⟨F.len,fun A outer s H args us vs Q E hr=>F.run A outer s H args us vs Q E (hr.mono h)⟩
variable{outer:List Env}
def P6.make(e:P6 P w K mg base A outer s H)(C:Ux)(us:List Uw)(kw:List (Str×Uw)):
  P6 P w K mg base (A.under (.builtin "type.__call__" ⟨.ref C::us,kw⟩)) outer s H:=⟨by first|exact e.frames|(simpa[Around.under,Code.envs,Code.isFrame,pushEnvs]using e.frames),e.mod,e.bs,e.bsz,e.funs,e.frf,e.hok,e.bare⟩
section
variable{X:Cx}{K3:List (Ux×Obj)}{σ:St}{H:Hp}{s s':Uy}
def NO.env0(I:NO X K3 σ H s):P6 X.prog X.w X.K X.mg X.base X.A X.stack s H:=
 ⟨I.ok.frames,I.ok.mod,I.bs,J4 I.ok.bsz I.sz,I.stack,I.stkFree,I.hok,I.bare⟩
def NO.after{Q:VK}(I:NO X K3 σ H s)(h:CE X.stack X.prog X.w H s Q u s'):EP X K3 σ Q u s':=by
 obtain⟨v,H',os,bare,un,hok,r,q⟩:=h;obtain⟨hh,g,d,t,os'⟩:=s';obtain rfl:os'=s.os:=os;exact⟨v,H',I.call (h':=hh) (g':=g) (d':=d) (t':=t) (ch:=[]) un hok bare (fun b z=>absurd z (by simp)),r,q⟩
end
def Bp(sp:Sp)(dvs:UG)(E:XK)(t:TA):TE:=fun σ H Q=>t σ H fun vs H1=>sp (vs++dvs) H1 Q E
inductive wj(C:Ux)(m:Str)(sp:Sp)(dvs:UG)(E:XK)(t:TA)(σ:St)(Q:VK)(x:V)(H1:Hp):Prop
 |mk(a dx fs:_):x=.ref a->H1 a=some (.ins C dx fs)->fs.lookup m=none->(t σ H1 fun vs H2=>sp (x::(vs++dvs)) H2 Q E)->wj C m sp dvs E t σ Q x H1
def Fi(C:Ux)(m:Str)(sp:Sp)(dvs:UG)(E:XK)(ta:TE)(t:TA):TE:=fun σ H Q=>ta σ H fun x H1=>wj C m sp dvs E t σ Q x H1
def Fj(C:Ux)(sp:Sp)(dvs:UG)(E:XK)(t:TA):TE:=fun σ H Q=>t σ H fun vs H1=>∀x dx,H1 x=none->H1 dx=none->dx≠x->
 sp (.ref x::(vs++dvs)) (az (az H1 dx (.own x)) x (.ins C dx [])) (fun v H2=>v=.non/\Q (.ref x) H2) E
def N7(K:ZF)(fd:UC)(ps:UD)(ds:List Uw):Prop:=
 ∀(s:Uy)(us:List Uw),K.In s.heap->(us++ds).length=ps.length->BindsTo s fd ⟨us,[]⟩ (ps.zip (us++ds))
def N7.all(h:∀us:List Uw,us.length=ps.length->bindArgs fd ⟨us,[]⟩=pure (ps.zip us)):N7 K fd ps []:=fun s us _ hl=>by
 rw[Ko]at hl⊢;exact .of_eq (h us hl)
def eP(CX:uw)(X:Cx)(E:XK):Prop:=∀(K3:List (Ux×Obj))(σ:St)(H:Hp)(s:Uy)(e:Uw)(s':Uy),NO X K3 σ H s->CX X.stack H s E e s'->X.xe e s'
section
variable{X:Cx}{CX:uw}{k:Nat}{f C:Ux}{fd:UC}{ps:UD}{sp:Sp}{dvs:UG}{ds:List Uw}{E:XK}{x m:Str}{p pos K':Pos}{e o:Expr}{es:List Expr}{ta:TE}{t:TA}
def iF{K3:List (Ux×Obj)}{σ:St}{H:Hp}{s:Uy}{Q:VK}{us:List Uw}{vs:UG}(F:NN X.prog X.w X.K X.mg X.base CX k f fd ps sp)(hr:NZ k X.A)(hb:N7 X.K fd ps ds)(hd:NV dvs ds)(hx:eP CX X E)
  (I:NO X K3 σ H s) (r:NV vs us) (h:sp (vs++dvs) H Q E):wpAny (model X.prog X.w) X.A (call (.ref f) us) (EP X K3 σ Q) X.xe s:=by
 have r2:NV (vs++dvs) (us++ds):=r.append hd;have hl:(us++ds).length=ps.length:=by rw[<-r2.length];exact F.len _ _ _ _ h
 refine wpAny_call (RX (F.run X.A X.stack s H ⟨us,[]⟩ (us++ds) (vs++dvs) Q E hr I.env0 (hb s us I.kIn hl) r2 h) fun r s' hq=>?_);cases r with
 |error e=>exact hx K3 σ H s e s' I hq
 |ok fl=>
  cases fl with
  |ret u=>exact I.after hq
  |next=>exact False.elim hq
  |brk=>exact False.elim hq
  |cont=>exact False.elim hq
def zD(F:NN X.prog X.w X.K X.mg X.base CX k f fd ps sp)(hr:NZ k X.A)(hg:Gl X x)(hm:X.mg x=some (.ref f))(hk:PySem.W.keepIn X.K (.ref f)=true)(hb:N7 X.K fd ps ds)(hd:NV dvs ds)(hx:eP CX X E)
  (ha:PA X (e::es) t) (VL:(x==("__debug__":Str))=false:=by decide) (he:starEach (e::es) X.env=(false,eval e X.env)::starEach es X.env:=by rfl) (Vm:(backTo pos (starEach es X.env)).any (·.1)=false:=by rfl) :
  PE X (.Call (.Name x p) (e::es) [] pos) (Bp sp dvs E t):=by
 refine⟨?_⟩;intro K3 s σ H Q I h;refine x_ (gT I hg hm ?_ VL);refine KM (h₀:=X.base) I.ok.mod.kin hk (bN (ha pos K3 s σ H _ I h) fun us s1⟨vs,H1,I1,r,q⟩=>⟨I1.kIn,?_⟩) he Vm;exact iF F hr hb hd hx I1 r q
def wk(F:NN X.prog X.w X.K X.mg X.base CX k f fd ps sp)(hr:NZ k X.A)(hg:Gl X x)(hm:X.mg x=some (.ref f))(hk:PySem.W.keepIn X.K (.ref f)=true)(hb:N7 X.K fd ps ds)(hd:NV dvs ds)(hx:eP CX X E)
  (VL:(x==("__debug__":Str))=false:=by decide):PE X (.Call (.Name x p) [] [] pos) (Bp sp dvs E Ck):=by
 refine⟨?_⟩;intro K3 s σ H Q I h;refine x_ (gT I hg hm ?_ VL);exact PySem.W.callWith_K0 I.kIn hk (iF (us:=[]) F hr hb hd hx I .nil h)
def ma{pl:Sem Bool}(he:PE X o ta)(c:Px X.K C)(hm:wg X.K C m f)(F:NN X.prog X.w X.K X.mg X.base CX k f fd ps sp)(hr:NZ k X.A)(hb:N7 X.K fd ps ds)(hd:NV dvs ds)(hx:eP CX X E)(ha:PA X (e::es) t)
  (Wb:starEach (e::es) X.env=(false,eval e X.env)::starEach es X.env:=by rfl) (Vm:(backTo pos (starEach es X.env)).any (·.1)=false:=by rfl)
  (ht:eval (.Call (.Attribute o m K') (e::es) [] pos) X.env=(do
   let ov <-eval o X.env
   standAt K'.atName
   let(f,first) <-holding [ov] (getMethod ov m pl)
   callWith pos f first (backTo pos (starEach (e::es) X.env)) (backToKw pos (keywordEach [] X.env))):=by rfl) :
  PE X (.Call (.Attribute o m K') (e::es) [] pos) (Fi C m sp dvs E ta t):=by
 refine⟨?_⟩;intro K3 s σ H Q I h;refine R7 (pl:=pl) (bN (he K3 s σ H _ I h) fun u s1 hZZ=>?_) ht;obtain⟨x,H1,I1,rx,a,dx,fs,ex,ea,l,q⟩:=hZZ;subst ex;obtain rfl:u=Value.ref a:=rx;refine gz I1 ea c hm l ?_;refine KM (first:=[.ref a]) (h₀:=X.base) I.ok.mod.kin hm.kp (bN (ha pos K3 s1 σ H1 _ I1 q) fun us s2⟨vs,H2,I2,r,q2⟩=>⟨I2.kIn,?_⟩) Wb Vm;exact iF (us:=.ref a::us) (vs:=.ref a::vs) F hr hb hd hx I2 (.cons rfl r) q2
structure Mk(K:ZF)(C f:Ux):Prop where
 makes:PySem.W.makesIn K C=true
 init:PySem.W.findIn K (.ref C) "__init__"=some (some (.ref f))
 fn:PySem.W.isFn K (.ref f)=true
 kp:PySem.W.keepIn K (.ref C)=true
def wl{K3:List (Ux×Obj)}{σ:St}{H:Hp}{s:Uy}{Q:VK}{us:List Uw}{vs:UG}(M:Mk X.K C f)(F:NN X.prog X.w X.K X.mg X.base CX k f fd ps sp)(hr:NZ (k+1) X.A)(hb:N7 X.K fd ps ds)(hd:NV dvs ds)
  (hx:eP CX X E) (I:NO X K3 σ H s) (r:NV vs us)
  (h:∀x dx,H x=none->H dx=none->dx≠x->sp (.ref x::(vs++dvs)) (az (az H dx (.own x)) x (.ins C dx [])) (fun v H2=>v=.non/\Q (.ref x) H2) E) :
  wpAny (model X.prog X.w) X.A (call (.ref C) us) (EP X K3 σ Q) X.xe s:=by
 have hq:=h (s.heap.objs.size+1) s.heap.objs.size (I.hok.fresh (Nat.le_succ _)) (I.hok.fresh (JB _)) (JO (Kv _));have I2:=NO.made (C:=C) I;have r2:NV (V.ref (s.heap.objs.size+1)::(vs++dvs)) (Value.ref (s.heap.objs.size+1)::(us++ds)):=.cons rfl (r.append hd);have hl:(Value.ref (s.heap.objs.size+1)::us++ds).length=ps.length:=by
  have e:=r2.length;rw[F.len _ _ _ _ hq]at e;exact e.symm
 refine wpAny_call (wf (f:=f) I.kIn M.makes M.init (beq_iff_eq.mp M.fn) (RX (F.run _ X.stack _ _ ⟨Value.ref (s.heap.objs.size+1)::us,[]⟩ (Value.ref (s.heap.objs.size+1)::(us++ds)) _ _ E (hr.make C us [])
  (I2.env0.make C us []) (hb _ (Value.ref (s.heap.objs.size+1)::us) I2.kIn hl) r2 hq) fun r s' Yl=>?_))
 cases r with
 |error e=>exact hx K3 σ _ _ e s' I2 Yl
 |ok fl=>
  cases fl with
  |ret u=>
   obtain⟨v,H',I3,rv,ev,q3⟩:=I2.after Yl;subst ev;exact⟨rv,⟨V.ref (s.heap.objs.size+1),H',I3,rfl,q3⟩⟩
  |next=>exact False.elim Yl
  |brk=>exact False.elim Yl
  |cont=>exact False.elim Yl
def gU(M:Mk X.K C f)(F:NN X.prog X.w X.K X.mg X.base CX k f fd ps sp)(hr:NZ (k+1) X.A)(hg:Gl X x)(hm:X.mg x=some (.ref C))(hb:N7 X.K fd ps ds)(hd:NV dvs ds)(hx:eP CX X E)
  (ha:PA X (e::es) t) (VL:(x==("__debug__":Str))=false:=by decide) (he:starEach (e::es) X.env=(false,eval e X.env)::starEach es X.env:=by rfl) (Vm:(backTo pos (starEach es X.env)).any (·.1)=false:=by rfl) :
  PE X (.Call (.Name x p) (e::es) [] pos) (Fj C sp dvs E t):=by
 refine⟨?_⟩;intro K3 s σ H Q I h;refine x_ (gT I hg hm ?_ VL);refine KM (h₀:=X.base) I.ok.mod.kin M.kp (bN (ha pos K3 s σ H _ I h) fun us s1⟨vs,H1,I1,r,q⟩=>⟨I1.kIn,?_⟩) he Vm;exact wl M F hr hb hd hx I1 r q
end
structure PK(X:Cx)(V3:List Keyword)(t:TA):Prop where
 run:∀(pos:Pos)(K3:List (Ux×Obj))(s:Uy)(σ:St)(H:Hp)(Q:UG->Hp->Prop),NO X K3 σ H s->t σ H Q->wpAny (model X.prog X.w) X.A (evalAll ((backToKw pos (keywordEach V3 X.env)).map (·.2))) (AP X K3 σ Q) X.xe s
instance {X:Cx}{V3:List Keyword}{t:TA}:CoeFun (PK X V3 t) fun _=>∀(pos:Pos)(K3:List (Ux×Obj))(s:Uy)(σ:St)(H:Hp)(Q:UG->Hp->Prop),NO X K3 σ H s->t σ H Q->wpAny (model X.prog X.w) X.A (evalAll ((backToKw pos (keywordEach V3 X.env)).map (·.2))) (AP X K3 σ Q) X.xe s:=⟨PK.run⟩
section
variable{X:Cx}{CX:uw}{k:Nat}{f C:Ux}{fd:UC}{ps ks:UD}{sp:Sp}{E:XK}{x m:Str}{p pos K' kpos:Pos}{e o:Expr}{es:List Expr}{V3:List Keyword}{te ta:TE}{t tk:TA}{nm:Option Str}
def Cm:PK X [] Ck:=⟨fun _ _ _ _ H Q I h=>wpAny_evalAll_nil ⟨[],H,I,.nil,h⟩⟩
def md(ha:PE X e te)(hr:PK X V3 t):PK X (⟨nm,e,kpos⟩::V3) (Bo te t):=by
 refine⟨?_⟩;intro pos K3 s σ H Q I h;show wpAny _ _ (evalAll ((do let v <-eval e X.env;standAt pos;pure v)::(backToKw pos (keywordEach V3 X.env)).map (·.2))) _ _ s;refine wpAny_evalAll_cons (a_ (bN (ha K3 s σ H _ I h) fun u s1⟨x,H1,I1,r1,q1⟩=>a_ (o_ (c_ ?_))));exact bN (hr pos K3 s1 σ H1 _ I1 q1) fun us s2⟨xs,H2,I2,r2,q2⟩=>⟨x::xs,H2,I2,.cons r1 r2,q2⟩
structure qj(K:ZF)(fd:UC)(ps ks:UD)(g:List Uw->List Uw->List Uw)(gV:UG->UG->UG):Prop where
 to:∀(s:Uy)(us ws:List Uw),K.In s.heap->(g us ws).length=ps.length->BindsTo s fd ⟨us,ks.zip ws⟩ (ps.zip (g us ws))
 rel:∀{vs:UG}{us:List Uw}{zs:UG}{ws:List Uw},NV vs us->NV zs ws->NV (gV vs zs) (g us ws)
def Cn(sp:Sp)(gV:UG->UG->UG)(E:XK)(t tk:TA):TE:=fun σ H Q=>t σ H fun vs H1=>tk σ H1 fun zs H2=>sp (gV vs zs) H2 Q E
variable{g:List Uw->List Uw->List Uw}{gV:UG->UG->UG}
def zE{K3:List (Ux×Obj)}{σ:St}{H:Hp}{s:Uy}{Q:VK}{us ws:List Uw}{vs zs:UG}(F:NN X.prog X.w X.K X.mg X.base CX k f fd ps sp)(hr:NZ k X.A)(hb:qj X.K fd ps ks g gV)(hx:eP CX X E)
  (I:NO X K3 σ H s) (r:NV vs us) (rz:NV zs ws) (h:sp (gV vs zs) H Q E):wpAny (model X.prog X.w) X.A (call (.ref f) us (ks.zip ws)) (EP X K3 σ Q) X.xe s:=by
 have r2:=hb.rel r rz;have hl:(g us ws).length=ps.length:=by rw[<-r2.length];exact F.len _ _ _ _ h
 refine wpAny_call (RX (F.run X.A X.stack s H ⟨us,ks.zip ws⟩ (g us ws) (gV vs zs) Q E hr I.env0 (hb.to s us ws I.kIn hl) r2 h) fun r s' hq=>?_);cases r with
 |error e=>exact hx K3 σ H s e s' I hq
 |ok fl=>
  cases fl with
  |ret u=>exact I.after hq
  |next=>exact False.elim hq
  |brk=>exact False.elim hq
  |cont=>exact False.elim hq
def wm(F:NN X.prog X.w X.K X.mg X.base CX k f fd ps sp)(hr:NZ k X.A)(hg:Gl X x)(hm:X.mg x=some (.ref f))(hk:PySem.W.keepIn X.K (.ref f)=true)(hb:qj X.K fd ps ks g gV)(hx:eP CX X E)
  (ha:PA X (e::es) t) (hkw:PK X V3 tk) (Wj:(backToKw pos (keywordEach V3 X.env)).all (·.1.isSome)=true:=by rfl) (Xv:(backToKw pos (keywordEach V3 X.env)).filterMap (·.1)=ks:=by rfl)
  (VL:(x==("__debug__":Str))=false:=by decide) (he:starEach (e::es) X.env=(false,eval e X.env)::starEach es X.env:=by rfl)
  (Vm:((backTo pos (starEach (e::es) X.env)).any (·.1)||(backToKw pos (keywordEach V3 X.env)).any (·.1.isNone))=false:=by rfl) :
  PE X (.Call (.Name x p) (e::es) V3 pos) (Cn sp gV E t tk):=by
 refine⟨?_⟩;intro K3 s σ H Q I h;refine x_ (gT I hg hm ?_ VL);refine PySem.W.callWith_KW (h₀:=X.base) I.ok.mod.kin hk Wj (bN (ha pos K3 s σ H _ I h) fun us s1 hZZ=>?_) Vm he;obtain⟨vs,H1,I1,r,q⟩:=hZZ;refine bN (hkw pos K3 s1 σ H1 _ I1 q) fun ws s2⟨zs,H2,I2,rz,q2⟩=>⟨I2.kIn,?_⟩;rw[Xv];exact zE F hr hb hx I2 r rz q2
end
structure al(N P:UD)(sc:Scope):Prop where
 kind:sc.kind=.function
 co:sc.isCoroutine=false
 gen:sc.isGenerator=false
 nd:N.Nodup
 pre:N.take P.length=P
 par:∀x∈P,sc.names.lookup x=some .local\/sc.names.lookup x=some .cell
 nofree:∀y∈sc.names,y.2≠.free
variable{sc:Scope}
def bH{N P:UD}(h:N.Nodup/\(∀x∈P,sc.names.lookup x=some .local\/sc.names.lookup x=some .cell)/\∀y∈sc.names,y.2≠.free)(a:sc.kind=.function:=by rfl)(b:sc.isCoroutine=false:=by rfl)(c:sc.isGenerator=false:=by rfl)(d:N.take P.length=P:=by rfl):al N P sc:=⟨a,b,c,h.1,d,h.2.1,h.2.2⟩
variable{n:Nat}
variable{kindOf:Str->Option NameKind}
def lj{x:Str}:∀{binds:List (Str×Uw)}{m:Str->Option Uw},(∀v,(x,v)∉binds)->bindL kindOf binds m x=m x
 |[],_,_=>rfl
 |(n,v)::r,m,h=>by
  unfold bindL;rw[lj fun w hw=>h w (JV _ hw)];split
  ·have:x≠n:=by rintro rfl;exact h v JF
   simp[this]
  ·rfl
def lw{x:Str}:∀{binds:List (Str×Uw)}{m:Str->Option Uw},(∀v,(x,v)∉binds)->bindC kindOf binds m x=m x
 |[],_,_=>rfl
 |(n,v)::r,m,h=>by
  unfold bindC;rw[lw fun w hw=>h w (JV _ hw)];split
  ·rfl
  ·have:x≠n:=by rintro rfl;exact h v JF
   simp[this]
def lz{x:Str}{v:Uw}:∀{P:UD}{vs:List Uw}{i:Nat}{m:Str->Option Uw},P.Nodup->P[i]?=some x->vs[i]?=some v->kindOf x=some .local->
  bindL kindOf (P.zip vs) m x=some v
 |[],_,_,_,_,h,_,_=>by simp at h
 |_::_,[],_,_,_,_,h,_=>by simp at h
 |p::P,w::vs,0,m,nd,h1,h2,hk=>by
  simp at h1 h2;subst h1;subst h2;show bindL kindOf ((p,w)::P.zip vs) m p=_;unfold bindL;rw[lj fun v hv=>(KU.mp nd).1 (Sw hv).1,g_ hk];simp
 |p::P,w::vs,i+1,m,nd,h1,h2,hk=>by
  show bindL kindOf ((p,w)::P.zip vs) m x=_;unfold bindL;exact lz (i:=i) (KU.mp nd).2 (by simpa using h1) (by simpa using h2) hk
def lA{x:Str}{v:Uw}:∀{P:UD}{vs:List Uw}{i:Nat}{m:Str->Option Uw},P.Nodup->P[i]?=some x->vs[i]?=some v->kindOf x≠some .local->
  bindC kindOf (P.zip vs) m x=some v
 |[],_,_,_,_,h,_,_=>by simp at h
 |_::_,[],_,_,_,_,h,_=>by simp at h
 |p::P,w::vs,0,m,nd,h1,h2,hk=>by
  simp at h1 h2;subst h1;subst h2;show bindC kindOf ((p,w)::P.zip vs) m p=_;unfold bindC;rw[lw fun v hv=>(KU.mp nd).1 (Sw hv).1,e_ hk];simp
 |p::P,w::vs,i+1,m,nd,h1,h2,hk=>by
  show bindC kindOf ((p,w)::P.zip vs) m x=_;unfold bindC;exact lA (i:=i) (KU.mp nd).2 (by simpa using h1) (by simpa using h2) hk
def start(N:UD)(vs:UG):St:=vs.map some++List.replicate (N.length-vs.length) none
def qk(CX:uw)(P:Uz)(w:UA)(K:ZF)(mg:Str->Option Uw)(base:Heap)(N:UD)(qual:Str)(scope:Scope)(f:Ux)(cd:Uw)(A:UB)(outer:List Env)(s:Uy)(H:Hp)(E:XK):Cx where
 prog:=P
 w:=w
 K:=K
 mg:=mg
 base:=base
 A:=A.deeper (envOfC qual scope s.heap.objs.size f cd)
 N:=N
 s₀:=s
 H₀:=H
 env:=envOfC qual scope s.heap.objs.size f cd
 outer:=outer
 stack:=envOfC qual scope s.heap.objs.size f cd::outer
 ex:=[]
 calm:=true
 fn:=fun _=>true
 pn:=[]
 xe:=fun e s'=>wpAny (model P w) (A.deeper (envOfC qual scope s.heap.objs.size f cd)) (leaving (envOfC qual scope s.heap.objs.size f cd) e) (fun _ Z0=>CX outer H s E e Z0) (fun e' Z0=>CX outer H s E e' Z0) s'
def oN{x:Str}(h:sc.names.lookup x=some .cell):∃c,(cellsFrom n sc.names []).lookup x=some c:=by
 have q:=PySem.W.cellsFrom_some sc.names n [] (.inl h);exact Option.isSome_iff_exists.mp q
def ux{CX:uw}{P:Uz}{w:UA}{K:ZF}{mg:Str->Option Uw}{base:Heap}{N ps:UD}{qual:Str}{scope:Scope}{f:Ux}{cd:Uw}{A:UB}{outer:List Env}{s s1:Uy}{H:Hp}{E:XK}{us:List Uw}{vs:UG}
  (S:al N ps scope) (hd:A.handled=none) (e0:P6 P w K mg base A outer s H) (hl:vs.length=ps.length) (r:NV vs us)
  (x:InCallC s s.heap.objs.size (bindL (envOfC qual scope s.heap.objs.size f cd).kindOf (ps.zip us) fun _=>none) (cellsFrom (s.heap.objs.size+1) scope.names []) (bindC (envOfC qual scope s.heap.objs.size f cd).kindOf (ps.zip us) fun _=>none) s1) :
  NO (qk CX P w K mg base N qual scope f cd A outer s H E) [] (start N vs) H s1:=by
 have Vm:ps.length<=N.length:=by have:=i_ List.length S.pre;rw[JU]at this;lia
 obtain⟨h1,tk,rfl,hk⟩:=x.done;have Yc:∀b:Ux,b∉(qk CX P w K mg base N qual scope f cd A outer s H E).ex:=fun b z=>absurd (show b∈([]:List Ux)from z) (by simp);refine⟨⟨e0.mod,S.kind,rfl,rfl,JB _,fun y z c h1 h2=>?_,fun y hy=>?_,fun y c _ h=>?_,fun _=>hd,Around.frames_deeper e0.frames,.inr ⟨rfl,rfl⟩,fun b z=>absurd z (Yc b),e0.bs,e0.bsz,fun b _ _=>Yc b,fun b z=>absurd z (Yc b),e0.funs,e0.frf⟩,
  rfl,e0.bare,Un.kept hk,⟨_,x.toInCall.ns,fun i y v h1 h2 h3=>?_⟩,fun y c h=>⟨_,x.cell y c h⟩,e0.hok.fresh (JB _),fun y c h=>?_,fun p hp=>absurd (show p∈([]:List (Ux×Obj))from hp) (by simp),e0.hok.kept hk,?_⟩
 ·exact name_of_addr x.apart (KH h1) (KH h2)
 ·have hy:scope.names.lookup y=some .cell\/scope.names.lookup y=some .free:=hy;rcases hy with hy|hy
  ·exact oN hy
  ·exact absurd rfl (S.nofree _ (KH hy))
 ·exact So (x.above y c (KH h))
 ·have hi:i<vs.length:=by
   unfold start at h2;by_cases hi:i<vs.length
   ·exact hi
   ·rw[KP (by simpa using hi)]at h2;rw[RW]at h2;split at h2<;>cases h2
  have ha:vs[i]?=some v:=by
   unfold start at h2;rw[Ky (by simpa using hi),J5]at h2;cases e:vs[i]? with
   |none=>rw[e]at h2;cases h2
   |some a=>rw[e]at h2;cases h2;rfl
  obtain⟨u,hu,rv⟩:=r.get ha;have hp:ps[i]?=some y:=by
   rw[<-S.pre,SL zo];exact h1
  have ndP:ps.Nodup:=by rw[<-S.pre];exact S.nd.sublist (List.take_sublist _ _)
  refine⟨u,rv,?_⟩;rcases S.par y (JP hp)with k|k
  ·exact .inl ⟨k,lz ndP hp hu k⟩
  ·obtain⟨c,e⟩:=oN (n:=s.heap.objs.size+1) k;refine .inr ⟨.inl k,c,e,?_⟩;have q:=x.cell y c e;rw[lA ndP hp hu (by show scope.names.lookup y≠_;rw[k];decide)]at q;exact q
 ·exact e0.hok.fresh (So (x.above y c (KH h)))
 ·unfold start;show _=N.length;rw[JH,JC,JM];lia
def Bq{CX:uw}{P:Uz}{w:UA}{K:ZF}{mg:Str->Option Uw}{base:Heap}{k:Nat}{f:Ux}{name qual:Str}{params:Arguments}{body:List Stmt}{scope:Scope}{dV kV doc pm Lb ct oc:Uw}{an od:Option Ux}
  {U7:Array (Option Uw)} {N ps:UD} {sp:Sp} (lk:K.lookup f=some ⟨oc,od,.func (PySem.W.fnOf name qual params body scope dV kV doc pm an Lb ct),U7⟩) (U8:PySem.W.codeIn K Lb qual=true) (S:al N ps scope)
  (len:∀vs H Q E,sp vs H Q E->vs.length=ps.length)
  (Vw:∀(A:UB)(outer:List Env)(s:Uy)(H:Hp)(vs:UG)(Q:VK)(E:XK),NZ k (A.deeper (envOfC qual scope s.heap.objs.size f Lb))->sp vs H Q E->
   ∃t,Pg (qk CX P w K mg base N qual scope f Lb A outer s H E) body t/\t {nx:=fun _ H'=>Q .non H',rt:=Q} (start N vs) H) :
  NN P w K mg base CX (k+1) f (PySem.W.fnOf name qual params body scope dV kV doc pm an Lb ct) ps sp:=by
 refine⟨len,fun A outer s H args us vs Q E hr e0 hb r V_=>?_⟩;have hl:=len _ _ _ _ V_;have KX:K.In s.heap:=e0.mod.kin.keeps fun b o e=>(e0.bs b o e).1;have lim:s.heap.NoLimit:=e0.mod.nolimit.keeps fun b o e=>(e0.bs b o e).1;have Y0:∀y∈ps.zip us,scope.names.lookup y.1=some .local\/(scope.names.lookup y.1=some .cell/\((cellsFrom (s.heap.objs.size+1) scope.names []).lookup y.1).isSome=true):=fun⟨n,v⟩hy=>by
  rcases S.par n (Sw hy).1 with q|q
  ·exact .inl q
  ·exact .inr ⟨q,PySem.W.cellsFrom_some _ _ _ (.inl q)⟩
 refine codeAny_call_function hr.depth (KX _ _ lk) rfl S.co S.gen rfl (PySem.W.codeRec_of KX U8) (hb _ _ _ _ ?_);refine wpAny_newFunctionEnv_cells S.kind Y0 fun env he s1 x=>?_;subst he;refine⟨lim.keeps x.toInCall.keep,codeAny_func ?_⟩;obtain⟨t,ht,hq⟩:=Vw A outer s H vs Q E (hr.deeper _) V_;have I:NO (qk CX P w K mg base N qual scope f Lb A outer s H E) [] (start N vs) H s1:=ux S hr.hd e0 hl r x;refine h_ (ht [] s1 (start N vs) H _ I hq) (fun fl s' hs=>?_) fun e s' hs=>hs;have P':∀{σ':St}{H':Hp}{v:V}{u:Uw},NO (qk CX P w K mg base N qual scope f Lb A outer s H E) [] σ' H' s'->NY v u->Q v H'->CE outer P w H s Q u s':=
  fun{σ' H' v u}J rv q=>⟨v,H',J.os,J.bare,J.base,J.hok,rv,q⟩
 cases fl with
 |ret u=>
  obtain⟨v,σ',H',J,rv,q⟩:=hs;exact P' J rv q
 |next=>
  obtain⟨σ',H',J,q⟩:=hs;exact P' (v:=V.non) (u:=Value.none) J rfl q
 |brk=>
  obtain⟨_,_,_,q⟩:=hs;exact False.elim q
 |cont=>
  obtain⟨_,_,_,q⟩:=hs;exact False.elim q
section
variable{X:Cx}{x:Str}{p pos:Pos}{e:Expr}{es:List Expr}{t:TA}{id T:String}{r:UG->Hp->VK->Prop}
def IY(r:UG->Hp->VK->Prop)(t:TA):TE:=fun σ H Q=>t σ H fun vs H1=>r vs H1 Q
def au(hc:cH X (.builtin id) r)(hg:Gl X x)(hm:X.mg x=none)(hv:bootBuiltins x=some (.builtin id))(ha:PA X (e::es) t)(hn:x≠"__name__":=by decide)(VL:(x==("__debug__":Str))=false:=by decide)
  (he:starEach (e::es) X.env=(false,eval e X.env)::starEach es X.env:=by rfl) (Vm:(backTo pos (starEach es X.env)).any (·.1)=false:=by rfl):PE X (.Call (.Name x p) (e::es) [] pos) (IY r t):=by
 refine⟨?_⟩;intro K3 s σ H Q I h;refine x_ (fj I hg hm hv ?_ hn VL);exact PyProof.Rows.callWith_builtin1 (bN (ha pos K3 s σ H _ I h) fun us s1⟨vs,H1,I1,r1,q1⟩=>hc K3 s1 σ H1 vs us Q I1 r1 q1) he Vm
def aV(hc:cH X (.type T) r)(hg:Gl X x)(hm:X.mg x=none)(hv:bootBuiltins x=some (.type T))(ha:PA X (e::es) t)(hn:x≠"__name__":=by decide)(VL:(x==("__debug__":Str))=false:=by decide)
  (he:starEach (e::es) X.env=(false,eval e X.env)::starEach es X.env:=by rfl) (Vm:(backTo pos (starEach es X.env)).any (·.1)=false:=by rfl):PE X (.Call (.Name x p) (e::es) [] pos) (IY r t):=by
 refine⟨?_⟩;intro K3 s σ H Q I h;refine x_ (fj I hg hm hv ?_ hn VL);exact Ke (bN (ha pos K3 s σ H _ I h) fun us s1⟨vs,H1,I1,r1,q1⟩=>hc K3 s1 σ H1 vs us Q I1 r1 q1) he Vm
end
end L2
namespace HT
open PySem PyProof.Rows
section
variable{prog:Uz}{w:UA}{A:UB}{E:Uw->Uy->Prop}{s:Uy}
def cat_tup{t b:Ux}{vs ws:List Uw}{Q:Uw->Uy->Prop}(ht:IsTup s.heap t vs.toArray)(hb:IsTup s.heap b ws.toArray)(hv:vs≠[])
  (h1:ws=[]->Q (.ref t) s) (h2:ws≠[]->Q (.ref s.heap.objs.size) {s with heap:=s.heap.push {cls:=.type "tuple",data:=.seq (vs++ws).toArray} })
  (hsz:vs.length+ws.length<=sizeLine):wpAny (model prog w) A (binaryOp .Add (.ref t) (.ref b)) Q E s:=by
 obtain⟨⟨cls,dd,data,sl⟩,ho,hc,n,hd⟩:=id ht;obtain⟨⟨cls2,Zv,Y3,Y8⟩,UL,We,n2,PL⟩:=id hb;simp only at hc hd We PL;subst hc hd We PL;have e:vs.toArray++ws.toArray=(vs++ws).toArray:=by simp
 by_cases hw:ws=[]
 ·exact concat_meets ⟨_,ho,rfl⟩ ⟨_,UL,rfl⟩ noFill_tuple_add seq_tuple_add RZ RV (RS _ _)
   (tuple_addW1 t b vs.toArray ws.toArray n n2 dd Zv sl Y8 (by simpa using hv) (by simp[hw])) ⟨ho,UL,h1 hw⟩
 ·refine concat_meets ⟨_,ho,rfl⟩ ⟨_,UL,rfl⟩ noFill_tuple_add seq_tuple_add RZ RV (RS _ _)
   (tuple_addW2 t b vs.toArray ws.toArray n n2 dd Zv sl Y8 (by simpa using hv) (by simpa using hw) (by rw[JJ,JJ];exact hsz)) ⟨ho,UL,?_⟩
  rw[e];exact h2 hw
def sIx(n d:Nat):Option Int->Nat
 |none=>d
 |some v=>if v<0 then(v+(n:Int)).toNat else min v.toNat n
def sIx_nat(n d k:Nat):sIx n d (some (k:Int))=min k n:=by
 show(if(k:Int)<0 then((k:Int)+(n:Int)).toNat else min (k:Int).toNat n)=min k n;rw[e_ zo,Kq]
def Q7(n d:Nat)(hd:d<=n)(o:Option Int):sIx n d o<=n:=by
 cases o with
 |none=>exact hd
 |some v=>
  show(if v<0 then(v+(n:Int)).toNat else min v.toNat n)<=n;by_cases hv:v<0
  ·rw[g_ hv];lia
  ·rw[e_ hv];exact Nat.min_le_right _ _
def Qc(v:Int)(n d:Nat):(if v<0 then max (v+(n:Int)) 0 else min v (n:Int))=((sIx n d (some v):Nat):Int):=by
 show(if v<0 then max (v+(n:Int)) 0 else min v (n:Int))=(((if v<0 then(v+(n:Int)).toNat else min v.toNat n):Nat):Int);by_cases hv:v<0
 ·simp only[g_ hv];lia
 ·simp only[e_ hv];lia
def PY(lo hi:Option Int)(n:Nat):Builtin.Slice.sliceAdjust lo hi 1 (n:Int)=(((sIx n 0 lo:Nat):Int),((sIx n n hi:Nat):Int)):=by
 have h1:¬((1:Int)<0):=by lia
 unfold Builtin.Slice.sliceAdjust;simp only[h1,R9];refine Prod.ext ?_ ?_
 ·cases lo with
  |none=>rfl
  |some v=>exact Qc v n 0
 ·cases hi with
  |none=>rfl
  |some v=>exact Qc v n n
def P1(i j:Nat):Builtin.Slice.slicePlaces (i:Int) (j:Int) 1=j-i:=by
 unfold Builtin.Slice.slicePlaces;have h1:(1:Int)>0:=by lia
 simp only[h1,if_true,Int.ediv_one];split<;>lia
def O0{v:Uw}{o:Option Int}{Q:Option Int->Uy->Prop}(p:IsPart v o)(h:Q o s):wpAny (model prog w) A (Builtin.Slice.slicePartIndex v) Q E s:=by
 cases p with
 |none=>exact slicePart_none h
 |int i t=>exact slicePart_int h
variable{lo hi:Option Int}{vl vu:Uw}{sl:Ux}
def OE{n:Nat}{Q:Int×Int×Nat->Uy->Prop}(hs:s.heap.IsSliceOf sl vl vu .none)(pl:IsPart vl lo)(pu:IsPart vu hi)
  (h:Q (((sIx n 0 lo:Nat):Int),1,sIx n n hi-sIx n 0 lo) s):wpAny (model prog w) A (Builtin.Slice.sliceApplied (.ref sl) (pure (n:Int))) Q E s:=by
 obtain⟨os,Wv,Xw,WP⟩:=id hs;unfold Builtin.Slice.sliceApplied Builtin.Slice.sliceFields;refine a_ (a_ (r_ Wv WP (x:=vl) rfl (a_ (r_ Wv WP (x:=vu) rfl (a_ (r_ Wv WP (x:=.none) rfl (c_ ?_)))))));refine a_ (slicePart_none ?_);show wpAny _ _ (if((1:Int)==0)=true then _ else _) _ _ s;rw[e_ zd];refine a_ (O0 pl (a_ (O0 pu (a_ (c_ ?_)))));show wpAny _ _ (match Builtin.Slice.sliceAdjust lo hi 1 (n:Int)with|(lo,hi)=>pure (lo,(1:Int),Builtin.Slice.slicePlaces lo hi 1)) _ _ s;rw[PY lo hi n];show wpAny _ _ (pure (((sIx n 0 lo:Nat):Int),(1:Int),Builtin.Slice.slicePlaces ((sIx n 0 lo:Nat):Int) ((sIx n n hi:Nat):Int) 1)) _ _ s;rw[P1];exact c_ h
def QP(xs:Array Uw)(i k:Nat):((List.range k).filterMap fun(m:Nat)=>xs[((i:Int)+(m:Int)*1).toNat]?).toArray=((xs.toList.drop i).take k).toArray:=by
 have e:(fun(m:Nat)=>xs[((i:Int)+(m:Int)*1).toNat]?)=fun m=>xs[i+m]?:=by
  funext m;have:((i:Int)+(m:Int)*1).toNat=i+m:=by lia
  rw[this]
 rw[e];have:=pick_run xs i k;rw[List.filterMap_map]at this;have e2:((fun x=>xs[x]?)∘fun x=>i+x)=fun m=>xs[i+m]?:=rfl;rw[e2]at this;rw[this]
def getItem_tuple_cut{t sl:Ux}{Lf:Array Uw}{Q:Uw->Uy->Prop}(ht:IsTup s.heap t Lf)(hs:s.heap.IsSliceOf sl vl vu .none)(pl:IsPart vl lo)(pu:IsPart vu hi)
  (hw:¬(sIx Lf.size 0 lo=0/\sIx Lf.size Lf.size hi=Lf.size))
  (h:Q (.ref s.heap.objs.size) {s with heap:=s.heap.push {cls:=.type "tuple",data:=.seq ((Lf.toList.drop (sIx Lf.size 0 lo)).take (sIx Lf.size Lf.size hi-sIx Lf.size 0 lo)).toArray} })
  (hsz:Lf.size<=sizeLine):wpAny (model prog w) A (getItem (.ref t) (.ref sl)) Q E s:=by
 have VZ:sizeOk (.seq ((Lf.toList.drop (sIx Lf.size 0 lo)).take (sIx Lf.size Lf.size hi-sIx Lf.size 0 lo)).toArray):=by
  show((Lf.toList.drop (sIx Lf.size 0 lo)).take (sIx Lf.size Lf.size hi-sIx Lf.size 0 lo)).toArray.size<=sizeLine;rw[JJ,JU,Kp,Kt];lia
 have hj:sIx Lf.size Lf.size hi<=Lf.size:=Q7 _ _ (JB _) hi;obtain⟨os,Wv,Xw,WP⟩:=id hs;have hTs:s.TypeIs (.ref sl) "slice":=⟨os,Wv,Xw⟩;unfold getItem;try with_reducible refine s_ ?_
 first|refine a_ (c_ ?_)|skip
 refine a_ (wpAny_sequenceKey ht.typeIs zd ?_);refine a_ (q_ (name:=Str.ofString "__getitem__") ht.typeIs Sn
  (t_ Sn ht.typeIs entry_tuple_getitem ?_ (args_tuple_getitem _ _)))
 show wpAny _ _ (Builtin.Tuple.tupleItemsOf (.ref t)>>=_) _ _ s;refine a_ (tupleItemsOf_ ht ?_);refine a_ (Sg hTs ?_);rw[g_ zd];refine a_ (OE hs pl pu ?_);have Ww:¬((((sIx Lf.size 0 lo:Nat):Int)==0&&(1:Int)==1&&(sIx Lf.size Lf.size hi-sIx Lf.size 0 lo)==Lf.size)=true):=by
  intro q;rw[Kb,Kb]at q;have q1:((sIx Lf.size 0 lo:Nat):Int)=0:=eq_of_beq q.1.1;have q2:sIx Lf.size Lf.size hi-sIx Lf.size 0 lo=Lf.size:=eq_of_beq q.2;exact hw ⟨zo,zo⟩
 show wpAny _ _ (if(((sIx Lf.size 0 lo:Nat):Int)==0&&(1:Int)==1&&(sIx Lf.size Lf.size hi-sIx Lf.size 0 lo)==Lf.size)=true then _ else _) _ _ s;rw[e_ Ww,QP];first
  |exact a_ (m:=Builtin.Tuple.tupleExact _) (l_ (c_ ⟨_,rfl,c_ h⟩) VZ)
  |exact a_ (m:=Builtin.Tuple.tupleExact _) (l_ (a_ (c_ (c_ ⟨_,rfl,c_ h⟩))) VZ)
  |exact a_ (a_ (m:=Builtin.Tuple.tupleExact _) (l_ (c_ (c_ ⟨_,rfl,c_ h⟩)) VZ))
  |exact a_ (a_ (m:=Builtin.Tuple.tupleExact _) (l_ (c_ ⟨_,rfl,c_ h⟩) VZ))
end
end HT
namespace L2
open PySem PySem.Spec PyProof.Rows
abbrev TO:=St->Hp->(Option Int->Hp->Prop)->Prop
structure PO(X:Cx)(e:Option Expr)(t:TO):Prop where
 run:∀(K3:List (Ux×Obj))(s:Uy)(σ:St)(H:Hp)(Q:Option Int->Hp->Prop),NO X K3 σ H s->t σ H Q->
  wpAny (model X.prog X.w) X.A (evalPart e X.env) (fun u s'=>∃o H',NO X K3 σ H' s'/\IsPart u o/\Q o H') X.xe s
instance {X:Cx}{e:Option Expr}{t:TO}:CoeFun (PO X e t) fun _=>∀(K3:List (Ux×Obj))(s:Uy)(σ:St)(H:Hp)(Q:Option Int->Hp->Prop),NO X K3 σ H s->t σ H Q->
  wpAny (model X.prog X.w) X.A (evalPart e X.env) (fun u s'=>∃o H',NO X K3 σ H' s'/\IsPart u o/\Q o H') X.xe s:=⟨PO.run⟩
def zF:TO:=fun _ H Q=>Q none H
inductive wn(Q:Option Int->Hp->Prop)(x:V)(H1:Hp):Prop
 |mk(i:_):x=.int i->Q (some i) H1->wn Q x H1
def wo(t:TE):TO:=fun σ H Q=>t σ H fun x H1=>wn Q x H1
section
variable{X:Cx}{e:Expr}{te:TE}{lo hi:Option Expr}{tl th:TO}{pos p2:Pos}
def dN:PO X none zF:=by
 refine⟨?_⟩;intro K3 s σ H Q I h;rw[evalPart_none];exact c_ ⟨none,H,I,.none,h⟩
def cy(h:PE X e te):PO X (some e) (wo te):=by
 refine⟨?_⟩;intro K3 s σ H Q I hw;rw[evalPart_some];refine bN (h K3 s σ H _ I hw) fun u s1 hZZ=>?_;obtain⟨x,H1,I1,r1,q1⟩:=hZZ;obtain⟨i,rfl,q⟩:=q1;obtain⟨t,rfl⟩:=r1;exact⟨some i,H1,I1,.int i t,q⟩
def Fk(X:Cx)(r:V->Option Int->Option Int->Hp->VK->Prop):Prop:=
 ∀(K3:List (Ux×Obj))(s:Uy)(σ:St)(H:Hp)(x:V)(v vl vu:Uw)(lo hi:Option Int)(sl:Ux)(Q:VK),NO X K3 σ H s->NY x v->s.heap.IsSliceOf sl vl vu .none->IsPart vl lo->IsPart vu hi->r x lo hi H Q->
  ∃T id,typeLookup (.type T) "__getitem__"=pure (some (.builtin id))/\s.TypeIs v T/\wpAny (model X.prog X.w) X.A (getItem v (.ref sl)) (EP X K3 σ Q) X.xe s
def IZ(r:V->Option Int->Option Int->Hp->VK->Prop)(te:TE)(tl th:TO):TE:=fun σ H Q=>te σ H fun x H1=>tl σ H1 fun l H2=>th σ H2 fun u H3=>r x l u H3 Q
def cB{r:V->Option Int->Option Int->Hp->VK->Prop}(hr:Fk X r)(he:PE X e te)(hl:PO X lo tl)(hu:PO X hi th):PE X (.Subscript e (.Slice lo hi none p2) pos) (IZ r te tl th):=by
 refine⟨?_⟩;intro K3 s σ H Q I h;refine Subscript_ (bN (he K3 s σ H _ I h) fun v s1 hZZ=>?_);obtain⟨x,H1,I1,r1,q1⟩:=hZZ;refine wpAny_Slice (bN (hl K3 s1 σ H1 _ I1 q1) fun vl s2⟨l,H2,I2,pl,q2⟩=>bN (hu K3 s2 σ H2 _ I2 q2) fun vu s3 hZZ=>?_);obtain⟨u,H3,I3,pu,q3⟩:=hZZ;rw[evalPart_none];refine c_ ?_;have I4:NO X K3 σ H3 {s3 with heap:=s3.heap.push {cls:=.type "slice",data:=.fields #[vl,vu,.none]} }:=I3.kept (t':=s3.toks) fun b ob q=>Jz _ q;obtain⟨T,id,hT,ht,hg⟩:=hr K3 {s3 with heap:=s3.heap.push {cls:=.type "slice",data:=.fields #[vl,vu,.none]} } σ H3 x v vl vu l u s3.heap.objs.size Q I4 r1 (Heap.IsSliceOf.new ..) pl pu q3;show wpAny (model X.prog X.w) X.A (subscriptTail e (.Slice lo hi none p2) v (.ref s3.heap.objs.size)) (EP X K3 σ Q) X.xe {s3 with heap:=s3.heap.push {cls:=.type "slice",data:=.fields #[vl,vu,.none]} };exact tail_any (ops:=[.ref s3.heap.objs.size,v]) ht hT hg (by with_unfolding_all rfl)
def dD(xs:UG)(lo hi:Option Int):UG:=(xs.drop (HT.sIx xs.length 0 lo)).take (HT.sIx xs.length xs.length hi-HT.sIx xs.length 0 lo)
def dQ(xs:UG)(lo hi:Option Int):(dD xs lo hi).length<=xs.length:=by
 unfold dD;rw[JU,Kp];lia
inductive Fl(K:ZF)(x:V)(lo:Option Int)(hi:Option Int)(H:Hp)(Q:VK):Prop
 |mk(a xs:_):x=.ref a->NL K H a xs->¬(HT.sIx xs.length 0 lo=0/\HT.sIx xs.length xs.length hi=xs.length)->(∀p,H p=none->Q (.ref p) (az H p (.tup (dD xs lo hi))))->Fl K x lo hi H Q
def wq:Fk X (Fl X.K):=by
 intro K3 s σ H x v vl vu lo hi sl Q I rx hs pl pu h;obtain⟨a,xs,rfl,hx,hw,q⟩:=h;cases rx;obtain⟨f',r,ht,hz⟩:=I.tuple hx;have K4:f'.toArray.size=xs.length:=by rw[JJ];exact r.length.symm
 refine⟨"tuple",_,PyProof.Rows.slot_tuple_getitem.lookup,ht.typeIs,?_⟩;refine HT.getItem_tuple_cut ht hs pl pu (by rw[K4];exact hw) ?_ (by rw[K4];exact hz);rw[K4];refine⟨.ref s.heap.objs.size,_,I.laid (t':=s.toks) (o:=.tup (dD xs lo hi)) (fun b ob q=>Jz _ q) (JB _) ?_,rfl,q _ (I.hok.fresh (JB _))⟩;exact⟨J4 (dQ xs lo hi) hz,_,(r.drop (HT.sIx xs.length 0 lo)).take (HT.sIx xs.length xs.length hi-HT.sIx xs.length 0 lo),O4.new _ _⟩
inductive Br(K:ZF)(x:V)(y:V)(H:Hp)(Q:VK):Prop
 |mk(a b xs ys:_):x=.ref a->y=.ref b->NL K H a xs->NL K H b ys->xs≠[]->xs.length+ys.length<=sizeLine->(ys=[]->Q (.ref a) H)->(ys≠[]->∀p,H p=none->Q (.ref p) (az H p (.tup (xs++ys))))->Br K x y H Q
def NV.nil_iff{xs:UG}{us:List Uw}(r:NV xs us):us=[]↔xs=[]:=by
 cases r with
 |nil=>simp
 |cons _ _=>simp
def sE:eM X (binaryOp .Add) (Br X.K):=by
 intro K3 s σ H x y v u Q I rx ry h;obtain⟨a,b,xs,ys,rfl,rfl,ha,hb,hx,hz,q1,q2⟩:=h;cases rx;cases ry;obtain⟨f',r1,p1,_⟩:=I.tuple ha;obtain⟨U2,r2,p2,_⟩:=I.tuple hb;refine HT.cat_tup p1 p2 (fun z=>hx (r1.nil_iff.mp z)) (fun z=>⟨.ref a,H,I,rfl,q1 (r2.nil_iff.mp z)⟩) (fun z=>?_) (by rw[<-r1.length,<-r2.length];exact hz);refine⟨.ref s.heap.objs.size,_,I.laid (t':=s.toks) (o:=.tup (xs++ys)) (fun b ob q=>Jz _ q) (JB _) ?_,rfl,q2 (fun w=>z (r2.nil_iff.mpr w)) _ (I.hok.fresh (JB _))⟩;exact⟨by rw[JH];exact hz,_,r1.append r2,O4.new _ _⟩
end
def zG(n:Nat)(i:Int):Option Nat:=if 0<=i then(if i<n then some i.toNat else none)else if -(n:Int)<=i then some (i+n).toNat else none
def sF{α:Type}(xs:List α)(i:Int):Option α:=(zG xs.length i).bind fun j=>xs[j]?
variable{j:Nat}{i:Int}{n:Nat}
def sG(h:zG n i=some j):seqIndex? i n=some j/\j<n/\-(n:Int)<=i/\i<n:=by
 unfold zG at h;by_cases h0:0<=i
 ·rw[g_ h0]at h;by_cases h1:i<n
  ·rw[g_ h1]at h;have e:i.toNat=j:=JS h;exact⟨by rw[seqIndex_of h0 h1,e],zo,zo,h1⟩
  ·rw[e_ h1]at h;cases h
 ·rw[e_ h0]at h;by_cases h1:-(n:Int)<=i
  ·rw[g_ h1]at h;have e:(i+n).toNat=j:=JS h;exact⟨by rw[seqIndex_neg zo h1,e],zo,h1,zo⟩
  ·rw[e_ h1]at h;cases h
def mh{α:Type}{xs:List α}{v:α}(h:sF xs i=some v):∃j,seqIndex? i xs.length=some j/\xs[j]?=some v/\j<xs.length/\-(xs.length:Int)<=i/\i<xs.length:=by
 unfold sF at h;cases e:zG xs.length i with
 |none=>rw[e]at h;cases h
 |some j=>
  rw[e]at h;obtain⟨h1,h2,h3,h4⟩:=sG e;exact⟨j,h1,h,h2,h3,h4⟩
def bD{α:Type}{xs:List α}{v:α}(h:xs[j]?=some v):sF xs (j:Int)=some v:=by
 have hj:j<xs.length:=(JA.mp h).1;have e:zG xs.length (j:Int)=some j:=by
  unfold zG;rw[g_ zo,g_ zo];simp
 unfold sF;rw[e];exact h
def zH(b:Expr):Prop:=∀o i,subscripted b false o i=operate [o,i] (getItem o i)
def Co(X:Cx)(r:R2):Prop:=
 ∀(value UI:Expr)(K3:List (Ux×Obj))(s:Uy)(σ:St)(H:Hp)(x y:V)(v u:Uw)(Q:VK),NO X K3 σ H s->NY x v->NY y u->r x y H Q->
  subscripted UI false v u=operate [v,u] (getItem v u)->wpAny (model X.prog X.w) X.A (subscriptTail value UI v u) (EP X K3 σ Q) X.xe s
def GW(X:Cx)(id:String)(r:V->UG->Hp->VK->Prop):Prop:=
 ∀(K3:List (Ux×Obj))(s:Uy)(σ:St)(H:Hp)(x:V)(xs:UG)(v:Uw)(us:List Uw)(Q:VK),NO X K3 σ H s->NY x v->NV xs us->r x xs H Q->
  wpAny (model X.prog X.w) X.A (call (.builtin id) (v::us)) (EP X K3 σ Q) X.xe s
section
variable{X:Cx}{a b:Expr}{ta tb:TE}{pos:Pos}
def ax{r:R2}(hr:Co X r)(ha:PE X a ta)(hb:PE X b tb)(hs:zH b:=by intro _ _;rfl):PE X (.Subscript a b pos) (GV r ta tb):=by
 refine⟨?_⟩;intro K3 s σ H Q I h;exact Subscript_ (Cf ha hb I h fun v u s2 x y H2 I2 rx ry q=>hr a b K3 s2 σ H2 x y v u Q I2 rx ry q (hs _ _))
inductive Cp(K:ZF)(x:V)(y:V)(H:Hp)(Q:VK):Prop
 |mk(p xs i v:_):x=.ref p->y=.int i->NQ K H p xs->sF xs i=some v->Q v H->Cp K x y H Q
inductive Cq(K:ZF)(x:V)(y:V)(H:Hp)(Q:VK):Prop
 |mk(p xs i v:_):x=.ref p->y=.int i->NL K H p xs->sF xs i=some v->Q v H->Cq K x y H Q
inductive Fo(x:V)(y:V)(H:Hp)(Q:VK):Prop
 |mk(z i c:_):x=.str z->y=.int i->z.length<=sizeLine->sF z.cps.toList i=some c->Q (.str ⟨#[c]⟩) H->Fo x y H Q
def b9:Co X (Cp X.K):=by
 intro value UI K3 s σ H x y v u Q I rx ry h hs;obtain⟨p,xs,i,z,rfl,rfl,hq,he,q⟩:=h;cases rx;obtain⟨t,rfl⟩:=ry;obtain⟨f',r,pl,hz⟩:=I.list hq;obtain⟨j,h1,h2,h3,h4,h5⟩:=mh he;obtain⟨w,ew,Vp⟩:=r.get h2;have hl:=r.length;have hn:=gy;have P':EP X K3 σ Q w s:=⟨z,H,I,Vp,q⟩;by_cases h0:0<=i
 ·have hj:i.toNat=j:=by
   rw[seqIndex_of h0 h5]at h1;exact JS h1
  exact item_listR pl.isList h0 zo (by rw[hj];simpa using ew) P' hs
 ·have hj:(i+(f'.toArray.size:Int)).toNat=j:=by
   rw[seqIndex_neg zo h4]at h1;rw[JJ,<-hl];exact JS h1
  exact subscriptTail_builtinR (x:=w) pl.isList.typeIs slot_list_getitem.lookup
   (wpAny_getItem_list_neg (Q:=fun r s'=>r=w/\EP X K3 σ Q r s') pl.isList zo (by rw[JJ]<;>lia) zo (by rw[hj];simpa using ew) ⟨rfl,P'⟩) hs
def ar:Co X (Cq X.K):=by
 intro value UI K3 s σ H x y v u Q I rx ry h hs;obtain⟨p,xs,i,z,rfl,rfl,hq,he,q⟩:=h;cases rx;obtain⟨t,rfl⟩:=ry;obtain⟨f',r,pl,hz⟩:=I.tuple hq;obtain⟨j,h1,h2,h3,h4,h5⟩:=mh he;obtain⟨w,ew,Vp⟩:=r.get h2;have hl:=r.length;have hn:=gy;have P':EP X K3 σ Q w s:=⟨z,H,I,Vp,q⟩;exact subscriptTail_builtinR (x:=w) pl.typeIs slot_tuple_getitem.lookup
  (getItem_tuple (j:=j) (Q:=fun r s'=>r=w/\EP X K3 σ Q r s') pl zo zo (by rw[JJ,<-hl];exact h1) (by simpa using ew) ⟨rfl,P'⟩) hs
def jV:Co X Fo:=by
 intro value UI K3 s σ H x y v u Q I rx ry h hs;obtain⟨z,i,c,rfl,rfl,hz,he,q⟩:=h;obtain⟨t,rfl⟩:=rx;obtain⟨t',rfl⟩:=ry;obtain⟨j,h1,h2,h3,h4,h5⟩:=mh he;have hl:z.cps.toList.length=z.length:=by simp[Str.length]
 rw[hl]at h1 h4 h5;have hn:=gy;exact tail_any (typeIs_str s z t) slot_str_getitem.lookup (getItem_str (c:=c) (by
  have e1:decide (i < -(2^63:Int))=false:=d_ zo;have e2:decide (i ≥ 2^63)=false:=d_ zo;rw[e1,e2,Bool.or_false]) (by rw[h1];simpa using h2) ⟨.str ⟨#[c]⟩,H,I.tok _,⟨_,rfl⟩,q⟩) hs
def ql(f':List Uw)(n j:Nat)(u:Uw):Obj.mapSeq (·.setIfInBounds j u) {cls:=.type "list",data:=.seq f'.toArray n}={cls:=.type "list",data:=.seq (f'.set j u).toArray n}:=by
 simp[Obj.mapSeq]
variable{xs:UG}{p:Ux}{s:Uy}{H:Hp}{σ:St}{K3:List (Ux×Obj)}
def NO.lst(I:NO X K3 σ H s)(h:H p=some (.lst xs)):
  ∃(f':List Uw)(n:Nat),NV xs f'/\s.heap.get? p=some {cls:=.type "list",data:=.seq f'.toArray n}/\xs.length<=sizeLine:=by
 obtain⟨z,f',n,r,e⟩:=I.hok p _ h;exact⟨f',n,r,e,z⟩
def NO.lstUpd{xs ys:UG}{f' its':List Uw}{n n':Nat}{f:Obj->Obj}(I:NO X K3 σ H s)(h:H p=some (.lst xs))
  (ho:s.heap.get? p=some {cls:=.type "list",data:=.seq f'.toArray n}) (hf:f {cls:=.type "list",data:=.seq f'.toArray n}={cls:=.type "list",data:=.seq its'.toArray n'}) (r:NV ys its') (hz:ys.length<=sizeLine) (t:Nat) :
  NO X K3 σ (az H p (.lst ys)) {s with heap:=s.heap.update p f,toks:=t}:=by
 have e:(s.heap.update p f).get? p=some {cls:=.type "list",data:=.seq its'.toArray n'}:=by
  rw[n_ f ho (by rw[hf]<;>rfl),hf]
 refine I.write (x:=p) (e:=p) (by rw[h];trivial) (.inl rfl) (fun b u hb q=>(Heap.get?_update_other _ _ (R0 hb)).trans q) ⟨_,e⟩ ?_;exact⟨hz,its',n',r,e⟩
inductive Bs(o:V)(i:V)(v:V)(H:Hp)(Q:Hp->Prop):Prop
 |mk(p xs k j:_):o=.ref p->i=.int k->H p=some (.lst xs)->zG xs.length k=some j->Q (az H p (.lst (xs.set j v)))->Bs o i v H Q
def fz:E6 X Bs:=by
 intro K3 s σ H o i v ov iv u Q I ro ri rv h;obtain⟨p,xs,k,j,rfl,rfl,hp,hj,q⟩:=h;cases ro;obtain⟨t,rfl⟩:=ri;obtain⟨f',n,r,ho,hz⟩:=I.lst hp;obtain⟨h1,h2,h3,h4⟩:=sG hj;have hl:=r.length;have hn:=gy;have I':NO X K3 σ (az H p (.lst (xs.set j v))) {s with heap:=s.heap.update p (Obj.mapSeq (·.setIfInBounds j u))}:=
  I.lstUpd hp ho (ql f' n j u) (r.set rv j) (by rw[List.length_set];exact hz) s.toks
 by_cases h0:0<=k
 ·have hk:k.toNat=j:=by
   rw[seqIndex_of h0 h4]at h1;exact JS h1
  exact PySem.W.ki_setAt ho h0 zo (by rw[JJ,<-hl];exact h4) (by rw[hk];exact⟨_,I',q⟩)
 ·have hk:(k+(f'.toArray.size:Int)).toNat=j:=by
   rw[seqIndex_neg zo h3]at h1;rw[JJ,<-hl];exact JS h1
  exact PySem.W.ki_setBack ho zo (by rw[JJ,<-hl];exact h3) zo (by rw[hk];exact⟨_,I',q⟩)
def mi(lo hi:Option Int)(n:Nat):(sliceBounds lo hi none n).1=((HT.sIx n 0 lo:Nat):Int)/\(sliceBounds lo hi none n).2.1=((HT.sIx n n hi:Nat):Int)/\(sliceBounds lo hi none n).2.2=1:=by
 refine⟨?_,?_,rfl⟩
 ·cases lo with
  |none=>simp[sliceBounds,HT.sIx]
  |some i=>
   simp only[sliceBounds,HT.sIx,Option.getD_none,show(1:Int)>0 by decide,if_true];by_cases h:i<0
   ·simp only[h,if_true]<;>lia
   ·simp only[h,R9]<;>lia
 ·cases hi with
  |none=>simp[sliceBounds,HT.sIx]
  |some i=>
   simp only[sliceBounds,HT.sIx,Option.getD_none,show(1:Int)>0 by decide,if_true];by_cases h:i<0
   ·simp only[h,if_true]<;>lia
   ·simp only[h,R9]<;>lia
def kY(f':List Uw)(lo hi:Option Int):slicePick f'.toArray lo hi none=((f'.drop (HT.sIx f'.length 0 lo)).take (HT.sIx f'.length f'.length hi-HT.sIx f'.length 0 lo)).toArray:=by
 obtain⟨h1,h2,h3⟩:=mi lo hi f'.toArray.size;unfold slicePick;rw[h1,h2,h3];simp only[sliceRange_one,pick_run,JJ]<;>rfl
inductive Cr(K:ZF)(x:V)(lo:Option Int)(hi:Option Int)(H:Hp)(Q:VK):Prop
 |mk(a xs:_):x=.ref a->NQ K H a xs->(∀p,H p=none->Q (.ref p) (az H p (.lst (dD xs lo hi))))->Cr K x lo hi H Q
def mj:Fk X (Cr X.K):=by
 intro K3 s σ H x v vl vu lo hi sl Q I rx hs pl pu h;obtain⟨a,xs,rfl,hx,q⟩:=h;cases rx;obtain⟨f',r,ht,hz⟩:=I.list hx;have K4:=r.length;refine⟨"list",_,slot_list_getitem.lookup,ht.isList.typeIs,?_⟩;refine wpAny_getItem_list_slice ht.isList hs pl pu .none (by simp) ?_ (by rw[JJ]<;>lia);rw[kY,<-K4];refine⟨.ref s.heap.objs.size,_,I.laid (t':=s.toks) (o:=.lst (dD xs lo hi)) (fun b ob q=>Jz _ q) (JB _) ?_,rfl,q _ (I.hok.fresh (JB _))⟩;exact⟨J4 (dQ xs lo hi) hz,_,0,(r.drop (HT.sIx xs.length 0 lo)).take (HT.sIx xs.length xs.length hi-HT.sIx xs.length 0 lo),JG _ rfl⟩
def gr:V->Bool
 |.non=>true
 |.bl _=>true
 |.int _=>true
 |.str _=>true
 |_=>false
def uy:V->V->Bool
 |.non,.non=>true
 |.bl a,.bl b=>a==b
 |.bl a,.int b=>(if a then 1 else 0)==b
 |.int a,.bl b=>a==(if b then 1 else 0)
 |.int a,.int b=>a==b
 |.str a,.str b=>a==b
 |_,_=>false
variable{u v:Uw}{y x:V}{A:UB}
def Ct(ry:NY y u)(rx:NY x v)(fy:gr y=true)(fx:gr x=true):SeqAt.EqAt A s u v (uy y x):=by
 cases y with
 |non=>
  cases ry;cases x with
  |non=>cases rx;exact SeqAt.EqAt.same _
  |bl b=>cases rx;exact SeqAt.EqAt.none_bool b
  |int b=>obtain⟨t,rfl⟩:=rx;exact SeqAt.EqAt.none_int b t
  |str b=>obtain⟨t,rfl⟩:=rx;exact SeqAt.EqAt.none_str b t
  |_=>exact absurd (show false=true from fx) JK
 |bl a=>
  cases ry;cases x with
  |non=>cases rx;exact SeqAt.EqAt.bool_none a
  |bl b=>cases rx;exact SeqAt.EqAt.bool_bool a b
  |int b=>obtain⟨t,rfl⟩:=rx;exact SeqAt.EqAt.bool_int a b t
  |str b=>obtain⟨t,rfl⟩:=rx;exact SeqAt.EqAt.bool_str a b t
  |_=>exact absurd (show false=true from fx) JK
 |int a=>
  obtain⟨t',rfl⟩:=ry;cases x with
  |non=>cases rx;exact SeqAt.EqAt.int_none a t'
  |bl b=>cases rx;exact SeqAt.EqAt.int_bool a t' b
  |int b=>obtain⟨t,rfl⟩:=rx;exact SeqAt.EqAt.int_int a t' b t
  |str b=>obtain⟨t,rfl⟩:=rx;exact SeqAt.EqAt.int_str a t' b t
  |_=>exact absurd (show false=true from fx) JK
 |str a=>
  obtain⟨t',rfl⟩:=ry;cases x with
  |non=>cases rx;exact SeqAt.EqAt.str_none a t'
  |bl b=>cases rx;exact SeqAt.EqAt.str_bool a t' b
  |int b=>obtain⟨t,rfl⟩:=rx;exact SeqAt.EqAt.str_int a t' b t
  |str b=>obtain⟨t,rfl⟩:=rx;exact SeqAt.EqAt.str_str a t' b t
  |_=>exact absurd (show false=true from fx) JK
 |_=>exact absurd (show false=true from fy) JK
def oO(x:V)(u:Uw):Bool:=match u with
 |.none=>uy .non x
 |.bool b=>uy (.bl b) x
 |.int i _=>uy (.int i) x
 |.str z _=>uy (.str z) x
 |_=>false
def qm(r:NY y u)(f:gr y=true):oO x u=uy y x:=by
 cases y with
 |non=>cases r;rfl
 |bl b=>cases r;rfl
 |int i=>obtain⟨t,rfl⟩:=r;rfl
 |str z=>obtain⟨t,rfl⟩:=r;rfl
 |_=>exact absurd (show false=true from f) JK
def gW:∀{xs:UG}{us:List Uw},NV xs us->xs.all gr=true->us.any (oO x)=xs.any fun y=>uy y x
 |_,_,.nil,_=>rfl
 |y::xs,u::us,.cons r t,f=>by
  rw[RU,Kb]at f;rw[K2,K2,qm r f.1,gW t f.2]
def eC(rx:NY x v)(fx:gr x=true):∀{xs:UG}{us:List Uw},NV xs us->xs.all gr=true->∀u∈us,SeqAt.EqAt A s u v (oO x u)
 |_,_,.nil,_=>fun u hu=>by cases hu
 |y::xs,u::us,.cons r t,f=>fun u' hu=>by
  rw[RU,Kb]at f;rcases JT.mp hu with rfl|hu
  ·rw[qm r f.1];exact Ct r rx f.1 fx
  ·exact eC rx fx t f.2 u' hu
def kU(x:V)(xs:UG):Bool:=xs.any fun y=>uy y x
inductive Hx(K:ZF)(neg:Bool)(x:V)(y:V)(H:Hp)(Q:VK):Prop
 |mk(p xs:_):y=.ref p->(NQ K H p xs\/NL K H p xs)->gr x=true->xs.all gr=true->Q (.bl (if neg then !kU x xs else kU x xs)) H->Hx K neg x y H Q
def bX:eM X (compareOp .In) (Hx X.K false):=by
 intro K3 s σ H x y v u Q I rx ry h;obtain⟨p,xs,rfl,hq,fx,fs,q⟩:=h;cases ry;rcases hq with hq|hq
 ·obtain⟨f',r,pl,hz⟩:=I.list hq;refine SeqAt.in_listAt (oO x) pl.isList (fun w hw=>eC rx fx r fs w (by simpa using hw)) ⟨.bl _,H,I,rfl,?_⟩;rw[show f'.toArray.any (oO x)=f'.any (oO x)by simp,gW r fs];exact q
 ·obtain⟨f',r,pl,hz⟩:=I.tuple hq;refine SeqAt.in_tupleAt (oO x) pl (fun w hw=>eC rx fx r fs w (by simpa using hw)) ⟨.bl _,H,I,rfl,?_⟩;rw[show f'.toArray.any (oO x)=f'.any (oO x)by simp,gW r fs];exact q
def du:eM X (compareOp .NotIn) (Hx X.K true):=by
 intro K3 s σ H x y v u Q I rx ry h;obtain⟨p,xs,rfl,hq,fx,fs,q⟩:=h;cases ry;rcases hq with hq|hq
 ·obtain⟨f',r,pl,hz⟩:=I.list hq;refine SeqAt.notIn_listAt (oO x) pl.isList (fun w hw=>eC rx fx r fs w (by simpa using hw)) ⟨.bl _,H,I,rfl,?_⟩;rw[show f'.toArray.any (oO x)=f'.any (oO x)by simp,gW r fs];exact q
 ·obtain⟨f',r,pl,hz⟩:=I.tuple hq;refine SeqAt.notIn_tupleAt (oO x) pl (fun w hw=>eC rx fx r fs w (by simpa using hw)) ⟨.bl _,H,I,rfl,?_⟩;rw[show f'.toArray.any (oO x)=f'.any (oO x)by simp,gW r fs];exact q
def aH:cH X (.builtin "len") (fun xs H Q=>∃p ys,xs=[.ref p]/\(NQ X.K H p ys\/NL X.K H p ys)/\Q (.int ys.length) H):=by
 intro K3 s σ H xs us Q I r h;obtain⟨p,ys,rfl,hq,q⟩:=h;obtain⟨u,rfl,rx⟩:=dB r;cases rx;have hn:=gy;rcases hq with hq|hq
 ·obtain⟨f',r',pl,hz⟩:=I.list hq;have K4:=r'.length;exact Calls.call_len_list pl.isList (by simp only[JJ]<;>lia) ⟨.int ys.length,H,I.tok _,⟨s.toks+1,by rw[JJ,K4]⟩,q⟩
 ·obtain⟨f',r',pl,hz⟩:=I.tuple hq;have K4:=r'.length;exact len_tuple pl (by simp only[JJ]<;>lia) ⟨.int ys.length,H,I.tok _,⟨s.toks+1,by rw[JJ,K4]⟩,q⟩
def cc:cH X (.builtin "len") (fun xs H Q=>∃z,xs=[.str z]/\z.length<=sizeLine/\Q (.int z.length) H):=by
 intro K3 s σ H xs us Q I r h;obtain⟨z,rfl,hz,q⟩:=h;obtain⟨u,rfl,t,rfl⟩:=dB r;have hn:=gy;exact len_str zo ⟨.int z.length,H,I.tok _,⟨_,rfl⟩,q⟩
def dv:cH X (.type "list") (fun xs H Q=>∃p ys,xs=[.ref p]/\(NQ X.K H p ys\/NL X.K H p ys)/\∀l,H l=none->Q (.ref l) (az H l (.lst ys))):=by
 intro K3 s σ H xs us Q I r h;obtain⟨p,ys,rfl,hq,q⟩:=h;obtain⟨u,rfl,rx⟩:=dB r;cases rx;have P':∀(f':List Uw),NV ys f'->ys.length<=sizeLine->∀(h':Heap)(c':Nat),(∀b o',s.heap.get? b=some o'->h'.get? b=some o')->
   h'.get? s.heap.objs.size=some {cls:=.type "list",dict:=none,data:=.seq f'.toArray c',slots:=#[]}->EP X K3 σ Q (.ref s.heap.objs.size) {s with heap:=h'}:=fun f' r' hz h' c' kp e=>
  ⟨.ref s.heap.objs.size,_,I.laid (t':=s.toks) kp (JB _) (show N2 X.prog X.w _ h' _ (.lst ys)from⟨hz,f',c',r',e⟩),rfl,q _ (I.hok.fresh (JB _))⟩
 rcases hq with hq|hq
 ·obtain⟨f',r',pl,hz⟩:=I.list hq;have K4:=r'.length;obtain⟨o,ho,hc,n,hd⟩:=pl.isList;exact call_list_seq p (.inl rfl) ho hc hd (fun h' c' kp e=>P' f' r' hz h' c' kp e) (by simp only[JJ]<;>lia)
 ·obtain⟨f',r',pl,hz⟩:=I.tuple hq;have K4:=r'.length;obtain⟨o,ho,hc,n,hd⟩:=pl;exact call_list_seq p (.inr rfl) ho hc hd (fun h' c' kp e=>P' f' r' hz h' c' kp e) (by simp only[JJ]<;>lia)
def bh:cH X (.type "tuple") (fun xs H Q=>∃p ys,xs=[.ref p]/\((NQ X.K H p ys/\∀l,H l=none->Q (.ref l) (az H l (.tup ys)))\/(NL X.K H p ys/\Q (.ref p) H))):=by
 intro K3 s σ H xs us Q I r h;obtain⟨p,ys,rfl,h⟩:=h;obtain⟨u,rfl,rx⟩:=dB r;cases rx;rcases h with⟨hq,q⟩|⟨hq,q⟩
 ·obtain⟨f',r',pl,hz⟩:=I.list hq;have K4:=r'.length;refine call_tuple_list pl.isList (fun h' kp=>?_) (by simp only[JJ]<;>lia);have I1:NO X K3 σ H {s with heap:=h'}:=I.kept (t':=s.toks) kp;have I2:NO X K3 σ (az H h'.objs.size (.tup ys)) {s with heap:=h'.push {cls:=.type "tuple",data:=.seq f'.toArray} }:=
   I1.laid (t':=s.toks) (fun b o e=>Jz _ e) (JB _) (show N2 X.prog X.w _ _ _ (.tup ys)from⟨hz,f',r',O4.new _ _⟩)
  exact⟨.ref h'.objs.size,_,I2,rfl,q _ (I1.hok.fresh (JB _))⟩
 ·obtain⟨f',r',pl,hz⟩:=I.tuple hq;exact call_tuple_same pl ⟨.ref p,H,I,rfl,q⟩
def Ja(K:ZF)(T:String)(x:V)(H:Hp):Prop:=match x with
 |.str _=>T="str"
 |.int _=>T="int"
 |.ref p=>(T="list"/\∃xs,NQ K H p xs)\/(T="tuple"/\∃o,K.lookup p=some o/\o.cls=.type "tuple"/\o.dict=none) ∨
   (T="dict"/\((∃kvs,H p=some (.dK kvs))\/∃kvs,H p=some (.dT kvs)))\/(T="set"/\∃S n,H p=some (.set S n))
 |_=>False
def Cu{T:String}(I:NO X K3 σ H s)(r:NY x v)(ty:Ja X.K T x H):
  s.TypeIs v T/\∀a,v=.ref a->∃ob,s.heap.get? a=some ob/\ob.dict=none:=by
 cases x with
 |str z=>
  obtain⟨t,rfl⟩:=r;cases(show T="str" from ty);exact⟨typeIs_str s z t,fun _ e=>nomatch e⟩
 |int i=>
  obtain⟨t,rfl⟩:=r;cases(show T="int" from ty);exact⟨typeIs_int s i t,fun _ e=>nomatch e⟩
 |ref p=>
  cases r;rcases ty with⟨rfl,xs,hq⟩|⟨rfl,o,hk,hc,hd⟩|⟨rfl,hk⟩|⟨rfl,S,n,hk⟩
  ·obtain⟨f',_,pl,_⟩:=I.list hq;refine⟨pl.isList.typeIs,fun a e=>?_⟩;cases e;obtain⟨o,n,e,c,hd,_⟩:=pl;exact⟨o,e,hd⟩
  ·refine⟨⟨o,I.kIn p o hk,hc⟩,fun a e=>?_⟩;cases e;exact⟨o,I.kIn _ o hk,hd⟩
  ·have z:∃o,s.heap.get? p=some o/\o.ExactDict:=by
    rcases hk with⟨kvs,hk⟩|⟨kvs,hk⟩
    ·obtain⟨_,_,_,_,o,_,_,e,ex,_⟩:=I.hok p _ hk;exact⟨o,e,ex⟩
    ·obtain⟨_,_,_,_,o,_,_,e,ex,_⟩:=I.hok p _ hk;exact⟨o,e,ex⟩
   obtain⟨o,e,ex⟩:=z;refine⟨⟨o,e,ex.1⟩,fun a e2=>?_⟩;cases e2;exact⟨o,e,ex.2.1⟩
  ·obtain⟨o,_,_,_,e,ex,_⟩:=I.hok p _ hk;refine⟨⟨o,e,ex.1⟩,fun a e2=>?_⟩;cases e2;exact⟨o,e,ex.2.1⟩
 |_=>exact False.elim ty
def Jr(K:ZF)(T:String)(r:V->UG->Hp->VK->Prop)(to:TE)(t:TA):TE:=fun σ H Q=>to σ H fun x H1=>Ja K T x H1/\t σ H1 fun xs H2=>r x xs H2 Q
variable{o e:Expr}{es:List Expr}{to:TE}{t:TA}{name:Str}{K' B':Pos}{T id:String}{r:V->UG->Hp->VK->Prop}
def fe(pa:PlainAttrs T)(slot:Slot T name id)(Yj:typeOf (.builtin id)=pure (.type "method_descriptor"))(hm:GW X id r)(ho:PE X o to)(ha:PA X (e::es) t)
  (Wo:attributeBase o name X.env (eval o X.env)=eval o X.env:=by rfl)
  (XJ:((backTo B' (starEach (e::es) X.env)).all (fun x=>!x.1)&&(backToKw B' (keywordEach [] X.env)).all (fun x=>x.1.isSome)
   && decide ((e::es).length+([]:List Keyword).length+(if([]:List Keyword).isEmpty then 0 else 1)<30))=true:=by rfl)
  (Wm:(K'.endLine==B'.line)=true:=by rfl) (hs:starEach (e::es) X.env=(false,eval e X.env)::starEach es X.env:=by rfl) (VS:(backTo B' (starEach es X.env)).any (·.1)=false:=by rfl) :
  PE X (.Call (.Attribute o name K') (e::es) [] B') (Jr X.K T r to t):=by
 refine⟨?_⟩;intro K3 s σ H Q I h;refine wpAny_Call_method_late Wo XJ Wm rfl (bN (ho K3 s σ H _ I h) fun v s1 hZZ=>?_);obtain⟨x,H1,I1,r1,ty,q1⟩:=hZZ;obtain⟨h1,h2⟩:=Cu I1 r1 ty;refine⟨T,id,pa,slot,Yj,h1,h2,?_⟩;have hA:=ha B' K3 s1 σ H1 _ I1 q1;rw[hs]at hA⊢;refine KJ (by show(false||(backTo B' (starEach es X.env)).any (·.1))=false;rw[VS]<;>rfl) (KQ ?_);exact bN hA fun us s2⟨vs,H2,I2,r2,q2⟩=>hm K3 s2 σ H2 x vs v us Q I2 r1 r2 q2
end
def Js(X:Cx)(id:String)(r:V->UG->Hp->VK->Prop):Prop:=
 ∀(K3:List (Ux×Obj))(s:Uy)(σ:St)(H:Hp)(x:V)(xs:UG)(v:Uw)(us:List Uw)(Q:VK),NO X K3 σ H s->NY x v->NV xs us->r x xs H Q->
  wpAny (model X.prog X.w) X.A (call (.builtin id) (v::us)) (EP X K3 σ Q) X.xe s
def NV.one:∀{x:V}{us:List Uw},NV [x] us->∃u,us=[u]/\NY x u
 |_,_,.cons r .nil=>⟨_,rfl,r⟩
def NV.rep{xs:UG}{us:List Uw}(h:NV xs us):∀k:Nat,NV (List.replicate k xs).flatten (List.replicate k us).flatten
 |0=>.nil
 |k+1=>by
  rw[F_,F_,KZ,KZ];exact NV.append h (NV.rep h k)
def lB(f':List Uw):∀(k:Nat)(G':List Uw),
  List.foldl (fun x1 x2=>x1++x2) G'.toArray (List.replicate k f'.toArray)=(G'++(List.replicate k f').flatten).toArray
 |0,G'=>by simp
 |k+1,G'=>by
  have e:G'.toArray++f'.toArray=(G'++f').toArray:=by simp
  have e2:(G'++f')++(List.replicate k f').flatten=G'++(List.replicate (k+1) f').flatten:=by
   rw[F_,KZ,JY]
  rw[<-e2,<-lB f' k (G'++f'),<-e,F_,List.foldl_cons]
section
variable{X:Cx}{K3:List (Ux×Obj)}{σ:St}{H:Hp}{s:Uy}{l b:Ux}{xs ys zs:UG}
def NO.lset{f' its':List Uw}{n:Nat}{f:Array Uw->Array Uw}{t':Nat}(I:NO X K3 σ H s)(hH:H l=some (.lst xs))
  (e:s.heap.get? l=some {cls:=.type "list",data:=.seq f'.toArray n}) (hf:f f'.toArray=its'.toArray) (hv:NV ys its') (hz:ys.length<=sizeLine) :
  NO X K3 σ (az H l (.lst ys)) {s with heap:=s.heap.update l (Obj.mapSeq f),toks:=t'}:=by
 have q:=PySem.IsL.update e f;rw[hf]at q;refine I.write (x:=l) (e:=l) (by rw[hH];exact trivial) (.inl rfl) (fun b' u hb hu=>(Heap.get?_update_other s.heap (Obj.mapSeq f) (R0 hb)).trans hu) ⟨_,q⟩ ?_;exact⟨hz,its',_,hv,q⟩
def NO.lnew{f':List Uw}{t':Nat}(I:NO X K3 σ H s)(hv:NV ys f')(hz:ys.length<=sizeLine):
  NO X K3 σ (az H s.heap.objs.size (.lst ys)) {s with heap:=s.heap.push {cls:=.type "list",data:=.seq f'.toArray},toks:=t'}:=
 I.laid (fun _ _ q=>Jz _ q) (JB _) ⟨hz,f',0,hv,JG _ rfl⟩
def NO.fresh(I:NO X K3 σ H s):H s.heap.objs.size=none:=I.hok.fresh (JB _)
def NO.lstM(I:NO X K3 σ H s)(hH:H l=some (.lst xs)):xs.length<=sizeLine/\∃(f':List Uw)(n:Nat),NV xs f'/\xs.length=f'.length/\s.heap.get? l=some {cls:=.type "list",data:=.seq f'.toArray n}:=by
 obtain⟨z,f',n,r,e⟩:=I.hok l _ hH;exact⟨z,f',n,r,r.length,e⟩
def oP(h:n<=sizeLine):Builtin.List.listTooLong n=false:=by
 unfold Builtin.List.listTooLong;exact d_ zo
end
section
variable{X:Cx}
inductive sI(x:V)(vs:UG)(H:Hp)(Q:VK):Prop
 |mk(l xs y:_):x=.ref l->vs=[y]->H l=some (.lst xs)->xs.length<sizeLine->Q .non (az H l (.lst (xs++[y])))->sI x vs H Q
def cg:Js X "list.append" sI:=by
 intro K3 s σ H x vs v us Q I rx rv h;obtain⟨l,xs,y,rfl,rfl,hH,hz,q⟩:=h;cases rx;obtain⟨u,rfl,ru⟩:=rv.one;obtain⟨z,f',n,r,hl,e⟩:=I.lstM hH;refine R3 F.slot_list_append ⟨_,e,rfl⟩ F.entry_list_append (F.args_list_append_2 _ _) (PySem.list_append l f'.toArray n u (by rw[JJ];lia)) ⟨e,?_⟩;refine⟨.non,_,I.lset (its':=f'++[u]) hH e (by simp) (r.append (.cons ru .nil)) ?_,rfl,q⟩;rw[JH,List.length_singleton];lia
inductive Fp(x:V)(y:V)(H:Hp)(Q:VK):Prop
 |mk(l b xs zs:_):x=.ref l->y=.ref b->H l=some (.lst xs)->H b=some (.lst zs)->xs.length+zs.length<=sizeLine->(∀p,H p=none->Q (.ref p) (az H p (.lst (xs++zs))))->Fp x y H Q
def ei:eM X (binaryOp .Add) Fp:=by
 intro K3 s σ H x y v u Q I rx ry h;obtain⟨l,b,xs,zs,rfl,rfl,hH,hB,hz,q⟩:=h;cases rx;cases ry;obtain⟨z,f',n,r,hl,e⟩:=I.lstM hH;obtain⟨z2,U2,n2,r2,V',e2⟩:=I.lstM hB;refine PySem.P.add_list e e2 ?_ (by rw[JJ,JJ];lia);have ea:f'.toArray++U2.toArray=(f'++U2).toArray:=by simp
 rw[ea];exact⟨.ref _,_,I.lnew (t':=s.toks) (r.append r2) (by rw[JH];lia),rfl,q _ I.fresh⟩
inductive Cv(x:V)(y:V)(H:Hp)(Q:VK):Prop
 |mk(l k xs:_):x=.ref l->y=.int k->H l=some (.lst xs)->-(2^63)<=k->k<2^63->xs.length*k.toNat<=sizeLine->(∀p,H p=none->Q (.ref p) (az H p (.lst (List.replicate k.toNat xs).flatten)))->Cv x y H Q
def zI{α:Type}(xs:List α)(k:Nat):(List.replicate k xs).flatten.length=k*xs.length:=by
 induction k with
 |zero=>simp
 |succ k ih=>rw[F_,KZ,JH,ih,Nat.succ_mul,Sq]
def mo:eM X (binaryOp .Mult) Cv:=by
 intro K3 s σ H x y v u Q I rx ry h;obtain⟨l,k,xs,rfl,rfl,hH,h1,h2,hz,q⟩:=h;cases rx;obtain⟨t,rfl⟩:=ry;obtain⟨z,f',n,r,hl,e⟩:=I.lstM hH;have K4:f'.toArray.size*k.toNat<=sizeLine:=by rw[JJ,<-hl];exact hz
 have hcap:¬f'.toArray.size*k.toNat>(2^63-1) / 8:=by
  have:(sizeLine:Nat)<=(2^63-1) / 8:=by decide
  lia
 have hfit:¬(!Builtin.List.listFitsIndex k)=true:=by
  rw[fitsIndex_both h1 h2];exact JK
 have Wl:¬Builtin.List.listTooLong (f'.toArray.size*k.toNat)=true:=by
  rw[oP K4];exact JK
 have hnew:List.foldl (fun x1 x2=>x1++x2) #[] (List.replicate (if f'.toArray.isEmpty=true then 0 else k.toNat) f'.toArray)=(List.replicate k.toNat f').flatten.toArray:=by
  have f0:∀m:Nat,List.foldl (fun x1 x2=>x1++x2) #[] (List.replicate m f'.toArray)=(List.replicate m f').flatten.toArray:=fun m=>by
   have:=lB f' m [];rw[KS]at this;exact this
  rw[f0];cases f' with
  |nil=>simp
  |cons a r'=>rw[e_ (by simp)]
 refine wpAny_binaryOp_repeat_ref (T:="list") (U:="int") zd ⟨_,e,rfl⟩ (fun s'=>typeIs_int s' k t) noFill_list_mul F.fills_int_mul F.slot_int_rmul repeat_list F.slot_int_index.lookup
  (R3 F.slot_int_rmul (typeIs_int s k t) F.entry_int_rmul (F.args_int_rmul_2 _ _) (int___rmul___int_list k t l f'.toArray n)
   ⟨e,rfl,⟨_,e,rfl⟩,R3 F.slot_list_mul ⟨_,e,rfl⟩ F.entry_list_mul (F.args_list_mul_2 _ _) (AutoListH.list___mul___list_int_3 l f'.toArray n k t hfit hcap Wl) ⟨e,?_⟩⟩)
 rw[hnew];exact⟨.ref _,_,I.lnew (t':=s.toks) (r.rep k.toNat) (by rw[zI,Nat.mul_comm];exact hz),rfl,q _ I.fresh⟩
end
end L2
namespace Att
open PySem PySem.W PySem.Calls PyProof.Rows
variable{h:Heap}{P:Params}
def OL:∀(ns:List Int)(vs:List Uw),WellAll P h vs (ns.map WData.int)->IntsAre vs ns:=by
 intro ns;induction ns with
 |nil=>
  intro vs w;rw[List.map_nil]at w;cases w;exact .nil
 |cons n ns ih=>
  intro vs w;rw[J9]at w;cases w with
  |cons a b=>
   cases a;exact .cons _ _ (ih _ b)
variable{n:Nat}
def Qp{l:OpenLaw}(hn:l.most=some n){P:Params}{h:Heap}{args:List WData}{XD:List Uw}
  (W0:l.row.toRowW.claim.pre args=true) (hwl:WellAll P h XD args) :
  ∃a vs ns,XD=[Value.ref a]/\args=[WData.list (ns.map WData.int)]/\h.get? a=some {cls:=.type "list",data:=.seq vs.toArray}/\IntsAre vs ns/\ns.length<=n:=by
 have hsh:WShape.hasAll [] args [.list .int]=true:=(pre_splitW W0).1;have hc:l.pre.holds [] {args:=args}=true:=(pre_splitW W0).2;obtain⟨d,r,rfl,h1,h2⟩:=hasAllW_cons hsh;obtain rfl:=hasAllW_nil h2;obtain⟨xs,rfl,h3⟩:=hasW_list h1;obtain⟨ns,rfl⟩:=items_int h3;have K4:ns.length<=n:=by
  unfold OpenLaw.pre at hc;have h4:(WTm.not (.lt (.lit (.int (n:Int))) (.len (.arg 0)))).holds [] {args:=[.list (ns.map .int)]}=true:=by
   have h4:=(holds_andW hc).1;rw[hn]at h4;exact h4
  have h5:=condW_of h4 (w_not (w_lt w_lit (w_len_list (w_arg rfl))));rw[JC]at h5;refine Nat.le_of_not_lt fun q=>?_;have q':(n:Int)<((ns.length:Nat):Int):=by lia
  first
   |(rw[b_ q']at h5;exact absurd h5 zd)
   |(simp at h5;lia)
 cases hwl with
 |cons w1 w2=>
  cases w2;cases w1 with
  |list ho Wj=>exact⟨_,_,ns,rfl,rfl,ho,OL ns _ Wj,K4⟩
def Qu(l:OpenLaw)(args:List WData):l.row.toRowW.claim.post args (.bool true) args=true:=
 postW_of (r:=l.row.toRowW) (X:=(true==true))
  (show WShape.has [] (.bool true) .bool=true by first|rfl|decide|simp[WShape.has,WShape.arms,WShape.armsAll])
  (show(WTm.eq .res (.lit (.bool true))).value [] {args:=args,res:=some (.bool true),after:=args}=some (.bool (true==true))from w_eq_bool (w_res rfl) w_lit) rfl
def attach_call{l:OpenLaw}{n:Nat}{q:Uz}{Vi:UD}{XP:(Str->Option Uw)->Heap->Prop}{YP:UA->Heap->Prop}{d:DefRec}
  (hn:l.most=some n) (Yv:d.params.defaults=[])
  (call:∀(w:UA)(s₀ s₁:Uy)(mg mb:Str->Option Uw)(fa:Ux)(o:Obj)(pm cd doc:Uw)(a:Ux)(vs:List Uw)(ns:List Int),
   Ground q Vi [] XP w s₀ mg mb s₁.heap->YP w s₁.heap->
   s₁.heap.get? fa=some o->o.data=.func (docDef d.name d.params d.body d.scope pm cd doc)->s₁.heap.CodeRec cd d.name->mg d.name=some (.ref fa)->
   s₁.heap.get? a=some {cls:=.type "list",data:=.seq vs.toArray}->IntsAre vs ns->ns.length<=n->s₁.gens=#[]->
   codeAny (model l.prog w) callerA (.call (.ref fa) ⟨[.ref a],[]⟩) (fun r s'=>r=.ok (.ret (.bool true))/\OldK s₁.heap s'.heap/\s'.os=s₁.os/\AllBare s'.gens) s₁) :
  WalkO q Vi XP YP l.row.toRowW d [] (fun f vs=>PySem.call f vs):=by
 intro w s₀ s₁ mg mb G Y fa o pm cd doc dV kV ho hd U8 hD hmg hg args XD as W0 hlay hrd hwl hlo;obtain rfl:dV=.none:=Dflts.none hD Yv;obtain rfl:kV=.none:=Dflts.noKw hD;obtain⟨a,vs,ns,rfl,rfl,XH,Wn,K4⟩:=Qp hn W0 hwl;refine enter_call (RX (call w s₀ s₁ mg mb fa o pm cd doc a vs ns G Y ho (fd_plain hd) U8 hmg XH Wn K4 hg) fun r s' hq=>?_);obtain⟨rfl,h2,h3,h4⟩:=hq;exact⟨.inl ⟨.bool true,.bool true,[],rfl,fun _=>rfl,.bool true,Qu l _,fun _=>⟨List.Pairwise.nil,fun _ hm=>(nomatch hm)⟩⟩,h2,h3,h4⟩
end Att
namespace L2
open PySem PySem.Spec PyProof.Rows
def lC:∀{vs:List Uw}{ns:List Int},IntsAre vs ns->NV (ns.map V.int) vs
 |_,_,.nil=>.nil
 |_,_,.cons n t h=>.cons ⟨t,rfl⟩ (lC h)
def zJ(H:Hp):Prop:=∀b,H b=none\/∃o xs,H b=some (.frz o (.lst xs))
def wr{P:Uz}{w:UA}{K:ZF}{mg mb:Str->Option Uw}{CX:uw}{k:Nat}{fa a:Ux}{fd:UC}{x:Str}{sp:Sp}{s₁:Uy}{vs:List Uw}{ns:List Int}
  (KX:K.In s₁.heap) (hns:s₁.heap.Ns mainGlobals mg) (hb:s₁.heap.Ns builtinsNs mb) (hbb:∀x:Str,x≠"__name__"->mb x=bootBuiltins x) (hlim:s₁.heap.NoLimit) (hg:s₁.gens=#[])
  (ha:s₁.heap.get? a=some {cls:=.type "list",data:=.seq vs.toArray}) (hi:IntsAre vs ns) (hl:ns.length<=sizeLine) (hr:NZ k callerA)
  (F:∀base:Heap,K.In base->base.Ns mainGlobals mg->NN P w K mg base CX k fa fd [x] sp) (Y2:∀(s:Uy)(u:Uw),BindsTo s fd ⟨[u],[]⟩ [(x,u)])
  (V_:∀H:Hp,zJ H->NQ K H a (ns.map V.int)->sp [.ref a] H (fun v _=>v=.bl true) fun _ _ _=>False)
  (YD:∀H e s',CX [] H s₁ (fun _ _ _=>False) e s'->False) :
  codeAny (model P w) callerA (.call (.ref fa) ⟨[.ref a],[]⟩) (fun r s'=>r=.ok (.ret (.bool true))/\OldK s₁.heap s'.heap/\s'.os=s₁.os/\AllBare s'.gens) s₁:=by
 have rv:=lC hi;have lenV:=hi.length;have YW:∀H:Hp,zJ H->NQ K H a (ns.map V.int)->Oq P w H s₁.heap->(∀b,H b≠none->b=a)->(H a≠none->K.lookup a=none)->
   codeAny (model P w) callerA (.call (.ref fa) ⟨[.ref a],[]⟩) (fun r s'=>r=.ok (.ret (.bool true))/\OldK s₁.heap s'.heap/\s'.os=s₁.os/\AllBare s'.gens) s₁:=by
  intro H hO hS hok hA hK;have V1:∀{b:Ux}{o:Obj},s₁.heap.get? b=some o->H b=none->(lU s₁.heap H).get? b=some o:=fun e n=>vQ e n;have Yc:∀{b:Ux}{o:Obj}{es:Array DictEntry}{ep:Nat},s₁.heap.get? b=some o->o.data=.dict es ep->H b=none:=fun{b o es ep}e d=>by
   cases q:H b with
   |none=>rfl
   |some u=>
    have e':b=a:=hA b (by rw[q];simp);subst e';rw[ha]at e;cases e;have d':Data.seq vs.toArray _=Data.dict es ep:=d;cases d'
  have Y_:∀{b:Ux}{m:Str->Option Uw},s₁.heap.Ns b m->(lU s₁.heap H).Ns b m:=fun{b m}⟨o,es,ep,e,d,r⟩=>⟨o,es,ep,V1 e (Yc e d),d,r⟩;have hKb:K.In (lU s₁.heap H):=fun b o e=>V1 (KX b o e) (by
   cases q:H b with
   |none=>rfl
   |some u=>
    have e':b=a:=hA b (by rw[q];simp);subst e';rw[hK (by rw[q];simp)]at e;cases e)
  have hM:Mod K mg (lU s₁.heap H):=⟨hKb,Y_ hns,⟨mb,Y_ hb,hbb⟩,let⟨mc,h1,h2⟩:=hlim;⟨mc,Y_ h1,h2⟩⟩;have e0:P6 P w K mg (lU s₁.heap H) callerA [] s₁ H:=⟨rfl,hM,fun b o e=>zp e,Nat.le_of_eq (ud _ _),trivial,fun b hb=>absurd (show b∈([]:List Ux)from hb) (by simp),hok,.of_eq hg⟩;refine RX ((F _ hKb (Y_ hns)).run callerA [] s₁ H ⟨[.ref a],[]⟩ [.ref a] [.ref a] _ _ hr e0 (Y2 s₁ (.ref a)) (.cons rfl .nil) (V_ H hO hS)) fun r s' h=>?_;cases r with
  |error e=>exact(YD H e s' h).elim
  |ok fl=>
   cases fl with
   |next=>exact False.elim h
   |brk=>exact False.elim h
   |cont=>exact False.elim h
   |ret u=>
    obtain⟨v,H',os,bare,un,hok',r',q⟩:=h;have q':v=.bl true:=q;subst q';obtain rfl:u=Value.bool true:=r';refine⟨rfl,OldK.of_keep fun b o e=>?_,os,bare⟩;cases q:H b with
    |none=>exact un.keep b o e q (by intro z;exact absurd (show b∈([]:List Ux)from z) (by simp)) (by simp)
    |some u=>
     rcases hO b with z|⟨ob,xs,z⟩
     ·rw[q]at z;cases z
     ·have z2:=un.frzs b ob _ z;obtain⟨e1,_⟩:=hok b _ z;obtain⟨e2,_⟩:=hok' b _ z2;rw[e]at e1;cases e1;exact e2
 cases hk:K.lookup a with
 |some o=>
  have e:=KX a o hk;rw[ha]at e;cases e;refine YW (fun _=>none) (fun _=>.inl rfl) (.inr ⟨_,vs.toArray,_,hk,rfl,rfl,rfl,by rw[JJ,lenV];exact hl,by simpa using rv⟩) (fun b u z=>by have z':(none:Option HO)=some u:=z;cases z') (fun b z=>absurd rfl z) fun z=>absurd rfl z
 |none=>
  refine YW (fun b=>if b=a then some (.frz {cls:=.type "list",data:=.seq vs.toArray} (.lst (ns.map V.int)))else none) (fun b=>?_) (.inl (.inr ⟨{cls:=.type "list",data:=.seq vs.toArray},g_ rfl⟩)) (fun b u z=>?_) (fun b z=>?_) fun _=>hk
  ·by_cases hb:b=a
   ·exact .inr ⟨_,_,g_ hb⟩
   ·exact .inl (e_ hb)
  ·by_cases hb:b=a
   ·have z':=(g_ hb).symm.trans z;cases z';subst hb;exact⟨ha,by rw[JC];exact hl,vs,_,rv,ha⟩
   ·have z':=(e_ hb).symm.trans z;cases z'
  ·by_cases hb:b=a
   ·exact hb
   ·exact absurd (e_ hb) z
def zK{l:PySem.W.OpenLaw}{n k:Nat}{q:Uz}{Vi:UD}{XP:(Str->Option Uw)->Heap->Prop}{YP:UA->Heap->Prop}{d:DefRec}{K:Params->ZF}{CX:UA->uw}{sp:UA->Sp}{x:Str}
  (hn:l.most=some n) (XV:n<=sizeLine) (Yv:d.params.defaults=[]) (hr:NZ k callerA)
  (hY:∀(w:UA)(h:Heap),YP w h->(K w.params).In h)
  (F:∀(w:UA)(mg:Str->Option Uw)(fa:Ux)(h:Heap),(K w.params).In h->h.Ns mainGlobals mg->mg d.name=some (.ref fa)->
   ∃fd:UC,(∀(s:Uy)(u:Uw),BindsTo s fd ⟨[u],[]⟩ [(x,u)]) /\
    ∀base:Heap,(K w.params).In base->base.Ns mainGlobals mg->NN l.prog w (K w.params) mg base (CX w) k fa fd [x] (sp w))
  (V_:∀(w:UA)(H:Hp)(a:Ux)(ns:List Int),ns.length<=n->zJ H->NQ (K w.params) H a (ns.map V.int)->sp w [.ref a] H (fun v _=>v=.bl true) fun _ _ _=>False)
  (YD:∀(w:UA)(H:Hp)(s:Uy)(e:Uw)(s':Uy),CX w [] H s (fun _ _ _=>False) e s'->False) :
  PySem.W.WalkO q Vi XP YP l.row.toRowW d [] (fun f vs=>PySem.call f vs):=by
 refine Att.attach_call hn Yv fun w s₀ s₁ mg mb fa o pm cd doc a vs ns G Y ho hd U8 hmg XH Wn K4 hg=>?_;have KX:=hY w _ Y;obtain⟨fd,hb,hF⟩:=F w mg fa _ KX G.T.g hmg;exact wr KX G.T.g G.T.b G.T.builtins G.T.nolimit hg XH Wn (J4 K4 XV) hr hF hb (fun H hO hS=>V_ w H a ns K4 hO hS) fun H e s'=>YD w H s₁ e s'
def wu{l:PySem.W.OpenLaw}{n k:Nat}{q:Uz}{Vi:UD}{XP:(Str->Option Uw)->Heap->Prop}{YP:UA->Heap->Prop}{d:DefRec}{K:Params->ZF}{CX:uw}{sp:ZF->Sp}{x:Str}
  (hn:l.most=some n) (XV:n<=sizeLine) (Yv:d.params.defaults=[]) (hr:NZ k callerA)
  (hY:∀(w:UA)(h:Heap),YP w h->(K w.params).In h)
  (F:∀(w:UA)(mg:Str->Option Uw)(fa:Ux)(h:Heap),(K w.params).In h->h.Ns mainGlobals mg->mg d.name=some (.ref fa)->
   ∃fd:UC,(∀(s:Uy)(u:Uw),BindsTo s fd ⟨[u],[]⟩ [(x,u)]) /\
    ∀base:Heap,(K w.params).In base->base.Ns mainGlobals mg->NN l.prog w (K w.params) mg base CX k fa fd [x] (sp (K w.params)))
  (V_:∀(K:ZF)(H:Hp)(a:Ux)(ns:List Int),ns.length<=n->zJ H->NQ K H a (ns.map V.int)->sp K [.ref a] H (fun v _=>v=.bl true) fun _ _ _=>False)
  (YD:∀(H:Hp)(s:Uy)(e:Uw)(s':Uy),CX [] H s (fun _ _ _=>False) e s'->False) :
  PySem.W.WalkO q Vi XP YP l.row.toRowW d [] (fun f vs=>PySem.call f vs):=
 zK (K:=K) (CX:=fun _=>CX) (sp:=fun w=>sp (K w.params)) hn XV Yv hr hY F (fun w H a ns h1 h2 h3=>V_ (K w.params) H a ns h1 h2 h3) fun _ H s e s'=>YD H s e s'
def bO(s:Stmt)(j:Nat):Stmt:=match s with
 |.ClassDef _ _ _ body _ _ _ _ _ _ _=>body.getD j (.Pass ⟨0,0,0,0⟩)
 |_=>.Pass ⟨0,0,0,0⟩
def cL(s:Stmt):Arguments:=match s with
 |.FunctionDef _ a _ _ _ _ _ _ _ _=>a
 |_=>{posonlyargs:=[],args:=[],vararg:=none,kwonlyargs:=[],kw_defaults:=[],kwarg:=none,defaults:=[]}
def cz(s:Stmt):List Stmt:=match s with
 |.FunctionDef _ _ b _ _ _ _ _ _ _=>b
 |_=>[]
def ah(s:Stmt):Scope:=match s with
 |.FunctionDef _ _ _ _ _ _ sc _ _ _=>sc
 |_=>{kind:=.function,names:=[],isGenerator:=false,isCoroutine:=false}
abbrev br:uw:=fun _ _ _ _ _ _=>False
abbrev E0:XK:=fun _ _ _=>False
def dR{X:Cx}:eP br X E0:=fun _ _ _ _ _ _ _ h=>h.elim
structure N1(K:ZF)(x qual:Str)(st:Stmt)(f:Ux)(fd:UC):Prop where
 ex:∃(oc:Uw)(od:Option Ux)(kV doc pm:Uw)(an:Option Ux)(Lb ct:Uw)(U7:Array (Option Uw)),
  fd=PySem.W.fnOf x qual (cL st) (cz st) (ah st) .none kV doc pm an Lb ct/\K.lookup f=some ⟨oc,od,.func fd,U7⟩/\PySem.W.codeIn K Lb qual=true
 kp:PySem.W.keepIn K (.ref f)=true
section
variable{P:Uz}{w:UA}{K:ZF}{mg:Str->Option Uw}{base:Heap}
variable{fd:UC}{f:Ux}{st:Stmt}{x qual:Str}
def N1.ok{N ps:UD}{k:Nat}{sp:Sp}(F:N1 K x qual st f fd)(S:al N ps (ah st))(len:∀vs H Q E,sp vs H Q E->vs.length=ps.length)
  (Vw:∀(Lb:Uw)(A:UB)(outer:List Env)(s:Uy)(H:Hp)(vs:UG)(Q:VK)(E:XK),NZ k (A.deeper (envOfC qual (ah st) s.heap.objs.size f Lb))->sp vs H Q E->
   ∃t,Pg (qk br P w K mg base N qual (ah st) f Lb A outer s H E).nox (cz st) t/\t {nx:=fun _ H'=>Q .non H',rt:=Q} (start N vs) H):NN P w K mg base br (k+1) f fd ps sp:=by
 obtain⟨oc,od,kV,doc,pm,an,Lb,ct,U7,rfl,lk,U8⟩:=F.ex;refine Bq lk U8 S len fun A outer s H vs Q E hr V_=>?_;obtain⟨t,h,q⟩:=Vw Lb A outer s H vs Q E hr V_;exact⟨t,h.nox,q⟩
def N1.binds{ps:UD}(F:N1 K x qual st f fd)
  (h:∀(kV doc pm:Uw)(an:Option Ux)(Lb ct:Uw)(us:List Uw),us.length=ps.length->bindArgs (PySem.W.fnOf x qual (cL st) (cz st) (ah st) .none kV doc pm an Lb ct) ⟨us,[]⟩=pure (ps.zip us)):N7 K fd ps []:=by
 obtain⟨oc,od,kV,doc,pm,an,Lb,ct,U7,rfl,lk,U8⟩:=F.ex;exact .all (h kV doc pm an Lb ct)
def wv{oc:Uw}{od an:Option Ux}{U7:Array (Option Uw)}{kV doc pm Lb ct:Uw}(l:K.lookup f=some ⟨oc,od,.func (PySem.W.fnOf x qual (cL st) (cz st) (ah st) .none kV doc pm an Lb ct),U7⟩)
  (c:PySem.W.codeIn K Lb qual=true) (k:PySem.W.keepIn K (.ref f)=true):N1 K x qual st f (PySem.W.fnOf x qual (cL st) (cz st) (ah st) .none kV doc pm an Lb ct):=⟨⟨oc,od,kV,doc,pm,an,Lb,ct,U7,rfl,l,c⟩,k⟩
end
def lD{A:UB}{k:Nat}(hr:NZ k A):A.units+1<cLine:=Nat.lt_of_le_of_lt (Nat.add_le_add_left (by decide:1<=64) _) hr.units
section
variable{X:Cx}
def pv(i:Nat){x:Str}{pos:Pos}(hN:X.N[i]?=some x:=by rfl)(hv:GT X.env.scope x:=by first|exact Or.inl rfl|exact Or.inr (Or.inl rfl)|exact Or.inr (Or.inr rfl))(hd:(x==("__debug__":Str))=false:=by decide)
  (U8:(x==("__classdict__":Str))=false:=by decide):PE X (.Name x pos) (uf i):=Ca hN hv hd U8
end
section
variable{A B:Prop}
def bJ(h:B):if false=true then A else B:=by
 rw[e_ JK];exact h
def eQ(h:A):if true=true then A else B:=by
 rw[g_ rfl];exact h
def eD{c A B:Prop} [Decidable c](h1:c->A)(h2:¬c->B):if c then A else B:=by
 by_cases h:c
 ·rw[g_ h];exact h1 h
 ·rw[e_ h];exact h2 h
def NJ(H H':Hp):Prop:=∀b o,H b=some o->H' b=some o
def NJ.refl(H:Hp):NJ H H:=fun _ _ h=>h
variable{H H1 H2:Hp}
def NJ.trans(a:NJ H H1)(b:NJ H1 H2):NJ H H2:=fun c o h=>b c o (a c o h)
def NJ.free{H H':Hp}(e:NJ H H'){l:Ux}(h:H' l=Option.none):H l=Option.none:=by
 cases q:H l with
 |none=>rfl
 |some o=>
  rw[e l o q]at h;cases h
end
def gB(env:Env):∀(names:List (Str×NameKind))(cs:List (Str×Ux)),(∀x∈names,x.2=.free->∃c,env.cells.lookup x.1=some c)->(∀x c,cs.lookup x=some c->env.cells.lookup x=some c)->
  ∃cl,(forIn names cs fun(p:Str×NameKind)(r:List (Str×Ux))=>(if(p.2==NameKind.free)=true then do let c <-cellOf env p.1;pure (ForInStep.yield ((p.1,c)::r))else pure (ForInStep.yield r):Sem (ForInStep (List (Str×Ux)))))=(pure cl:Sem (List (Str×Ux))) /\
   (∀x c,cl.lookup x=some c->env.cells.lookup x=some c)/\(∀x,(∃c,cs.lookup x=some c)->∃c,cl.lookup x=some c)/\∀x∈names,x.2=.free->∃c,cl.lookup x.1=some c
 |[],cs,_,h=>⟨cs,rfl,h,fun _ z=>z,fun _ z=>nomatch z⟩
 |(n,k)::r,cs,hn,h=>by
  by_cases e:k=.free
  ·subst e;obtain⟨c,hc⟩:=hn (n,.free) JF rfl;have h':∀x c',((n,c)::cs).lookup x=some c'->env.cells.lookup x=some c':=fun x c' q=>by
    rw[J6]at q;cases ex:x==n with
    |true=>
     rw[ex]at q;have:x=n:=by simpa using ex
     subst this;cases q;exact hc
    |false=>rw[ex]at q;exact h x c' q
   obtain⟨cl,e1,e2,e3,e4⟩:=gB env r ((n,c)::cs) (fun x hx=>hn x (JV _ hx)) h';refine⟨cl,?_,e2,fun x⟨c',q⟩=>e3 x ?_,fun x hx hf=>?_⟩
   ·rw[M_];rw[g_ (show(((n,NameKind.free):Str×NameKind).2==NameKind.free)=true from by rfl)];unfold cellOf;rw[hc];exact e1
   ·rw[J6];cases ex:x==n with
    |true=>exact⟨c,rfl⟩
    |false=>exact⟨c',q⟩
   ·rcases JT.mp hx with z|z
    ·subst z;exact e3 n ⟨c,by rw[J6];simp⟩
    ·exact e4 x z hf
  ·obtain⟨cl,e1,e2,e3,e4⟩:=gB env r cs (fun x hx=>hn x (JV _ hx)) h;refine⟨cl,?_,e2,e3,fun x hx hf=>?_⟩
   ·rw[M_];rw[e_ (show¬(((n,k):Str×NameKind).2==NameKind.free)=true by simpa using e)];exact e1
   ·rcases JT.mp hx with z|z
    ·subst z;exact absurd hf e
    ·exact e4 x z hf
def gC(hn:∀x∈sc.names,x.2=.free->∃c,env.cells.lookup x.1=some c):
  ∃cl,closureFor sc env=pure cl/\(∀x c,cl.lookup x=some c->env.cells.lookup x=some c)/\∀x∈sc.names,x.2=.free->∃c,cl.lookup x.1=some c:=by
 obtain⟨cl,e1,e2,_,e4⟩:=gB env sc.names [] hn (fun x c z=>by cases z);refine⟨cl,?_,e2,e4⟩;unfold closureFor;exact(i_ (fun(m:Sem (List (Str×Ux)))=>m>>=fun r=>pure r) e1)
def cj:∀{l:List (Str×κ)}{x:Str}{k:κ},l.lookup x=some k->(x,k)∈l
 |[],_,_,h=>by cases h
 |(n,k')::r,x,k,h=>by
  rw[J6]at h;cases e:x==n with
  |true=>
   rw[e]at h;have:x=n:=by simpa using e
   subst this;cases h;exact JF
  |false=>
   rw[e]at h;exact JV _ (cj h)
def gD(env:Env)(x:Str)(k:NameKind):NameKind:=if(k==NameKind.free&&env.scope.kind==.function&&env.kindOf x==some .cell)=true then .cell else k
def jW:∀{names:List (Str×NameKind)}{x:Str},
  (names.map fun(p:Str×NameKind)=>match p with|(n,k)=>if(k==NameKind.free&&env.scope.kind==.function&&env.kindOf n==some .cell)=true then(n,NameKind.cell)else(n,k)).lookup x=(names.lookup x).map (gD env x)
 |[],x=>rfl
 |(n,k)::r,x=>by
  rw[J9];by_cases e:x=n
  ·subst e;dsimp only;by_cases c:(k==NameKind.free&&env.scope.kind==.function&&env.kindOf x==some .cell)=true
   ·rw[g_ c];have z:gD env x k=.cell:=g_ c;simp[J6,z]
   ·rw[e_ c];have z:gD env x k=k:=e_ c;simp[J6,z]
  ·have e':(x==n)=false:=by simpa using e
   dsimp only;rw[J6 (a:=x) (b:=k),e'];show _=(r.lookup x).map (gD env x);rw[<-jW];by_cases c:(k==NameKind.free&&env.scope.kind==.function&&env.kindOf n==some .cell)=true
   ·rw[g_ c,J6,e']
   ·rw[e_ c,J6,e']
def eR:(compEnvC sc cl C env).kindOf x=(sc.names.lookup x).map (gD env x):=jW
def jX(N:UD)(sc0 sc:Scope)(N':UD)(ix:List (Option Nat)):Bool:=
 sc.kind==.function&&ix.length==N'.length &&
 sc.names.all (fun p=>p.2 != .cell&&(p.2 != .free||(sc0.names.lookup p.1==some .cell||sc0.names.lookup p.1==some .free))&&(p.2 != .local||sc.names.lookup p.1==some .local)) &&
 (List.range N'.length).all fun j=>match ix[j]?,N'[j]? with
  |some (some i),some x=>N[i]?==some x&&sc.names.lookup x==some .free
  |_,_=>true
def fU(h:jX N sc0 sc N' ix=true):
  sc.kind=.function/\ix.length=N'.length/\(∀p∈sc.names,p.2≠.cell)/\(∀p∈sc.names,p.2=.free->sc0.names.lookup p.1=some .cell\/sc0.names.lookup p.1=some .free) /\
   (∀p∈sc.names,p.2=.local->sc.names.lookup p.1=some .local)/\∀(j i:Nat)(x:Str),ix[j]?=some (some i)->N'[j]?=some x->N[i]?=some x/\sc.names.lookup x=some .free:=by
 unfold jX at h;simp only[Kb,Ki,beq_iff_eq,bne_iff_ne,Bool.or_eq_true,ne_eq]at h;obtain⟨⟨⟨h1,h2⟩,h3⟩,h4⟩:=h;refine⟨h1,h2,fun p hp=>(h3 p hp).1.1,fun p hp hf=>?_,fun p hp hl=>?_,fun j i x e1 e2=>?_⟩
 ·rcases(h3 p hp).1.2 with z|z
  ·exact absurd hf z
  ·exact z
 ·rcases(h3 p hp).2 with z|z
  ·exact absurd hl z
  ·exact z
 ·have hj:j<N'.length:=(JA.mp e2).1;have:=h4 j (Kx.mpr hj);rw[e1,e2]at this;simpa using this
def cV(X:Cx)(sc:Scope)(N':UD)(C:Ux)(cl:List (Str×Ux))(s:Uy)(H:Hp)(fp:List Ux):Cx:=
 {X with N:=N',s₀:=s,H₀:=H,env:=compEnvC sc cl C X.env,outer:=X.stack,stack:=X.stack,ex:=fp,fn:=fun _=>false,pn:=[],xe:=fun _ _=>False}
def eG(ix:List (Option Nat))(σ:St):St:=ix.map fun o=>match o with|some i=>(σ[i]?).getD none|none=>none
def Ob:St->St->Prop
 |[],[]=>True
 |none::r,_::r'=>Ob r r'
 |some v::r,w::r'=>w=some v/\Ob r r'
 |_,_=>False
def Ob.spec:∀{a b:St},Ob a b->a.length=b.length/\∀(i:Nat)v,a[i]?=some (some v)->b[i]?=some (some v)
 |[],[],_=>⟨rfl,fun _ _ z=>by simp at z⟩
 |[],_::_,h=>h.elim
 |none::r,[],h=>h.elim
 |some v::r,[],h=>h.elim
 |none::r,w::r',h=>by
  obtain⟨e1,e2⟩:=Ob.spec (a:=r) (b:=r') h;refine⟨by simp[e1],fun i v z=>?_⟩;cases i with
  |zero=>simp at z
  |succ i=>simpa using e2 i v (by simpa using z)
 |some u::r,w::r',h=>by
  obtain⟨e0,h⟩:=h;obtain⟨e1,e2⟩:=Ob.spec (a:=r) (b:=r') h;refine⟨by simp[e1],fun i v z=>?_⟩;cases i with
  |zero=>simp at z;subst z;simp[e0]
  |succ i=>simpa using e2 i v (by simpa using z)
structure PF(X:Cx)(L':List Expr)(t:TT):Prop where
 run:∀(K3:List (Ux×Obj))(s:Uy)(σ:St)(H:Hp)(Q:Bool->Hp->Prop),NO X K3 σ H s->t σ H Q->
  wpAny (model X.prog X.w) X.A (forIn L' true fun c r=>if r=true then do let ok <-isTrue c X.env (eval c X.env);pure (ForInStep.yield ok)else pure (ForInStep.yield r)) (TP X K3 σ Q) X.xe s
instance {X:Cx}{L':List Expr}{t:TT}:CoeFun (PF X L' t) fun _=>∀(K3:List (Ux×Obj))(s:Uy)(σ:St)(H:Hp)(Q:Bool->Hp->Prop),NO X K3 σ H s->t σ H Q->
  wpAny (model X.prog X.w) X.A (forIn L' true fun c r=>if r=true then do let ok <-isTrue c X.env (eval c X.env);pure (ForInStep.yield ok)else pure (ForInStep.yield r)) (TP X K3 σ Q) X.xe s:=⟨PF.run⟩
def Fq:TT:=fun _ H Q=>Q true H
def bz:PF X [] Fq:=⟨fun K3 s σ H Q I h=>wpAny_tests_nil ⟨H,I,h⟩⟩
def qo(h:PT X c t):PF X [c] t:=⟨fun K3 s σ H Q I q=>wpAny_tests_one (h K3 s σ H Q I q)⟩
def uz(J:It)(g:TG)(tf:TT)(te:TE)(ix:List (Option Nat))(σ:St)(H1:Hp)(Q:VK):Prop:=∃W:Nat->Nat->UG->Hp->Prop,(∃m,W 0 m [] H1)/\∀i m ys H,W i m ys H->
 (J.stop i H/\ys.length<=sizeLine/\∀D,H D=none->Q (.ref D) (az H D (.lst ys))) ∨
 (J.go i H/\ys.length<=sizeLine/\∀x H',J.yld i H x H'->g x (eG ix σ) H' fun σ2 H2=>Ob (eG ix σ) σ2/\tf σ2 H2 fun b H3=>if b=true then te σ2 H3 fun y H4=>∃m',m'<m/\W (i+1) m' (ys++[y]) H4 else ∃m',m'<m/\W (i+1) m' ys H3)
def Hy(wi:TI)(g:TG)(tf:TT)(te:TE)(ix:List (Option Nat)):TE:=fun σ H Q=>wi σ H fun J H1=>uz J g tf te ix σ H1 Q
section
def qp(I:NO X K3 σ H2 s2)(Vh:jX X.N X.env.scope sc N' ix=true)(e2:∀x c,cl.lookup x=some c->X.env.cells.lookup x=some c)(e3:∀x∈sc.names,x.2=.free->∃c,cl.lookup x.1=some c)
  (f2:∀b∈fp,Of X K3 H2 b) (fo:∀b∈fp,∃o,s2.heap.get? b=some o) (hC:s2.heap.objs.size<=C):(cV X sc N' C cl s2 H2 fp).Ok:=by
 obtain⟨k1,_,k3,_,_,_⟩:=fU Vh;refine⟨I.ok.mod,k1,I.ok.glob,I.ok.blt,hC,fun x y c a b=>I.ok.inj x y c (e2 x c a) (e2 y c b),fun x hx=>?_,fun x c z=>(by cases z),I.ok.hd,I.ok.frames,.inl rfl,fun b hb=>?_,I.bs,J4 I.ok.bsz I.sz,fun b o e hb=>?_,fun b hb hf=>?_,I.stack,I.stkFree⟩
 ·have Vl:(compEnvC sc cl C X.env).kindOf x=some .cell\/(compEnvC sc cl C X.env).kindOf x=some .free:=hx;rw[eR]at Vl;cases q:sc.names.lookup x with
  |none=>rw[q]at Vl;rcases Vl with z|z<;>cases z
  |some k=>
   have hm:=cj q;have hf:k=.free:=by
    rw[q]at Vl;have nk:=k3 _ hm;cases k with
    |free=>rfl
    |cell=>exact absurd rfl nk
    |_=>rcases Vl with z|z<;>(simp[gD]at z)
   exact e3 (x,k) hm hf
 ·obtain⟨o,ho⟩:=fo b hb;exact⟨JO (JW (JD ho) hC),fun x c q=>(f2 b hb).2.2.2.2.1 x c (e2 x c q)⟩
 ·have Vr:b∈fp:=hb;rcases(f2 b Vr).2.2.2.1 with z|z
  ·exact I.ok.noex b o e z
  ·exact absurd (JW (JD e) (J4 I.ok.bsz z)) (Kk _)
 ·have Vr:b∈fp:=hb;rcases JT.mp (I.stkSub b hf)with z|z
  ·exact(f2 b Vr).2.1 z
  ·exact(f2 b Vr).2.2.1 z
end
section
structure OU(X:Cx)(K3:List (Ux×Obj))(σ:St)(H:Hp)(s:Uy)(C:Ux):Prop where
 inv:NO X K3 σ H s
 ns:∃m,s.heap.Ns C m
 free:H C=none
 loc:C≠X.env.locals
 cel:∀x c,X.env.cells.lookup x=some c->c≠C
 abv:X.s₀.heap.objs.size<=C
 pin:∀p∈X.pn++K3,p.1≠C
def OU.gone(L:OU X K3 σ H s C)(sb:Heap.SameBut C s.heap h'):NO X K3 σ H {s with heap:=h'}:=
 L.inv.turned (it:=C) (t':=s.toks) (fun b o hb e=>(sb.2 b hb).trans e) L.free L.loc (.inr L.abv) L.cel L.pin
def sJ(hc:X.calm=true)(Vh:jX X.N X.env.scope sc N' ix=true)(hi:PI X tg iter wi)
  (hg:∀C cl s H fp,PG (cV X sc N' C cl s H fp) tg g) (hf:∀C cl s H fp,PF (cV X sc N' C cl s H fp) L' tf) (he:∀C cl s H fp,PE (cV X sc N' C cl s H fp) S' te)
  (hs:∀x,foldedSetIterable iter X.env x=pure x) (I:NO X K3 σ H s) (h:Hy wi g tf te ix σ H Q)
  (VQ:∀(C D:Ux)(H':Hp)(s':Uy),OU X K3 σ H' s' C->Q (.ref D) H'->compPost (model X.prog X.w) X.A X.xe use Qf (.ref D) C (.ok .next) s') :
  wpAny (model X.prog X.w) X.A (comprehension (.ListComp S' [⟨tg,iter,L',0⟩] sc pos) sc X.env B' (newList []) false (eval iter X.env) use) Qf X.xe s:=by
 obtain⟨hk,K4,UO,UJ,Va,WR⟩:=fU Vh;obtain⟨cl,e1,e2,e3⟩:=gC (env:=X.env) (sc:=sc) (fun x hx hf=>I.ok.has x.1 (UJ x hx hf));refine R6 (use:=use) (cl:=cl) rfl hs e1 hk Va (bN (hi K3 s σ H _ I h) fun v s1 h1=>bN h1 fun XR s2 h2=>?_);obtain⟨it,fp,tn,J,H2,e,I2,T,V2,f2,W,⟨m0,w0⟩,UU⟩:=h2;subst e;refine l_ (Sm UO (by intro y hy;simp at hy) (fun h₁ Ve U6=>?_) hk);dsimp only at Ve U6⊢;generalize hH2:s2.heap.push {cls:=.type "list",dict:=none,data:=.seq ([]:List Uw).toArray}=G2 at Ve U6⊢;have Xz:G2.objs.size=s2.heap.objs.size+1:=by rw[<-hH2,Kl]
 have WS:s2.heap.objs.size≠G2.objs.size:=by rw[Xz];exact JO (Kv _)
 have VR:s2.heap.objs.size<=G2.objs.size:=by rw[Xz];exact Nat.le_succ _
 have J':∀b,b<s2.heap.objs.size->b≠G2.objs.size:=fun b hb=>by rw[Xz];exact JO (RR hb)
 have UR:∀b,b<s2.heap.objs.size->b≠s2.heap.objs.size:=fun b hb=>JO hb;have UH:∀b o,s2.heap.get? b=some o->h₁.get? b=some o:=fun b o e=>U6.extBut b o (J' b (JD e)) (Jz _ (hH2▸Jz _ e));have Vv:h₁.get? s2.heap.objs.size=some {cls:=.type "list",data:=.seq ([]:List Uw).toArray}:=U6.extBut _ _ WS (Jz _ (hH2▸JG _ rfl));have fo:∀b∈fp,∃o,s2.heap.get? b=some o:=fun b hb=>let⟨o,ho,_⟩:=T.obj _ _ V2 b hb;⟨o,ho⟩;have fD:∀b∈fp,b≠s2.heap.objs.size:=fun b hb=>let⟨o,ho⟩:=fo b hb;UR b (JD ho);have VU:(cV X sc N' G2.objs.size cl s2 H2 fp).Ok:=qp I2 Vh e2 e3 f2 fo VR;have HD:H2 s2.heap.objs.size=none:=I2.hok.fresh (JB _);have HC:H2 G2.objs.size=none:=I2.hok.fresh VR;have I4:NO (cV X sc N' G2.objs.size cl s2 H2 fp) [] (eG ix σ) H2 {s2 with heap:=h₁,toks:=s2.toks+([]:List (Str×Uw)).length}:=by
  refine⟨VU,rfl,I2.bare,Un.kept UH,⟨_,Ve,fun j x v a b c=>?_⟩,fun x c q=>?_,HC,fun x c q=>I2.freeC x c (e2 x c q),fun p hp=>(by cases hp),I2.hok.kept UH,?_⟩
  ·
   have a':N'[j]?=some x:=a;have b':(ix.map fun o=>match o with|some i=>(σ[i]?).getD none|none=>none)[j]?=some (some v):=b;rw[J5]at b';cases q:ix[j]? with
   |none=>rw[q]at b';cases b'
   |some o=>
    rw[q]at b';cases o with
    |none=>cases b'
    |some i=>
     obtain⟨n1,n2⟩:=WR j i x q a';have VY:(σ[i]?).getD none=some v:=JS b';have sv:σ[i]?=some (some v):=by
      cases z:σ[i]? with
      |none=>rw[z]at VY;cases VY
      |some y=>rw[z]at VY;exact i_ some VY
     obtain⟨m,hn,hl⟩:=I2.loc;have kx:=UJ (x,.free) (cj n2) rfl;obtain⟨u,r,lk⟩:=hl i x v n1 sv (.inr kx);refine⟨u,r,.inr ⟨?_,?_⟩⟩
     ·show(compEnvC sc cl G2.objs.size X.env).kindOf x=some .cell\/(compEnvC sc cl G2.objs.size X.env).kindOf x=some .free;rw[eR,n2];show some (gD X.env x .free)=some .cell\/some (gD X.env x .free)=some .free;unfold gD;split
      ·exact .inl rfl
      ·exact .inr rfl
     ·obtain⟨c1,Xc⟩:=e3 (x,.free) (cj n2) rfl;refine⟨c1,Xc,?_⟩;have We:=e2 x c1 Xc;rcases lk with⟨z,_⟩|⟨_,c,V6,Yy⟩
      ·have z':X.env.scope.names.lookup x=some .local:=z;rcases kx with y|y<;>(rw[y]at z';cases z')
      ·rw[We]at V6;cases V6;obtain⟨o,ho,hd⟩:=Yy;exact⟨o,UH c1 o ho,hd⟩
  ·obtain⟨v,o,ho,hd⟩:=I2.cell x c (e2 x c q);exact⟨v,o,UH c o ho,hd⟩
  ·show(ix.map _).length=N'.length;rw[JC,K4]
 have Wp:∀x c,cl.lookup x=some c->c≠s2.heap.objs.size:=fun x c q z=>by
  obtain⟨v,o,ho,hd⟩:=I2.cell x c (e2 x c q);exact UR c (JD ho) z
 have loop:∀s₃:Uy,s₃={s2 with heap:=h₁,toks:=s2.toks+([]:List (Str×Uw)).length}->
   codeAny (model X.prog X.w) X.A (.compLoop (.ListComp S' [⟨tg,iter,L',0⟩] sc pos) 0 (.ref it) (.ref s2.heap.objs.size) (compEnvC sc cl G2.objs.size X.env))
    (compPost (model X.prog X.w) X.A X.xe use Qf (.ref s2.heap.objs.size) G2.objs.size) s₃:=by
  rintro s₃ rfl;refine SJ rfl (fun n s'=>∃i ys H' f' k,NO (cV X sc N' G2.objs.size cl s2 H2 fp) [] (eG ix σ) H' s'/\tn i s'.heap/\(∀b∈fp,H' b=none)/\H' s2.heap.objs.size=none /\
   NV ys f'/\s'.heap.get? s2.heap.objs.size=some {cls:=.type "list",data:=.seq f'.toArray k}/\W i n ys H') ?_ m0
   ⟨0,[],H2,[],_,I4,T.keep _ _ _ V2 (fun b _ o e=>UH b o e),fun b hb=>(f2 b hb).1,HD,.nil,Vv,w0⟩
  rintro n s5 ⟨i,ys,H5,f',k,I5,VG,V7,Vt,vv,oD,w5⟩;show wpAny _ X.A ((compTurn (.ListComp S' [⟨tg,iter,L',0⟩] sc pos) 0 (.ref it) (.ref s2.heap.objs.size) (compEnvC sc cl G2.objs.size X.env)).onRaise (fun x=>do noteFrame x (compEnvC sc cl G2.objs.size X.env);theTreesLotGoes x)) _ _ s5;refine wpAny_noted ?_;rw[compTurn_list];have Xf:NO (cV X sc N' G2.objs.size cl s2 H2 fp) [(s2.heap.objs.size,{cls:=.type "list",data:=.seq f'.toArray k})] (eG ix σ) H5 s5:=I5.pins_of fun p hp=>by
   have Vk:p=(s2.heap.objs.size,{cls:=.type "list",data:=.seq f'.toArray k}):=by simpa using hp
   subst Vk;refine⟨oD,Vt,WS,fun hb=>?_,fun v z=>(by cases z)⟩;obtain⟨_,o,ho,_⟩:=I2.stack.mem (show s2.heap.objs.size∈oH X.stack from hb);exact Kk _ (JD ho)
  have VN:∀{H':Hp},(∀b∈fp,H' b=none)->∀b∈fp,Of (cV X sc N' G2.objs.size cl s2 H2 fp) [(s2.heap.objs.size,({cls:=.type "list",data:=.seq f'.toArray k}:Obj))] H' b:=fun{H'}hn b hb=>by
   refine⟨hn b hb,(VU.exf b hb).1,VU.exfs b hb,.inl hb,(VU.exf b hb).2,fun p hp=>?_⟩;have Vk:p=(s2.heap.objs.size,({cls:=.type "list",data:=.seq f'.toArray k}:Obj)):=by
    have z:p∈([]:List (Ux×Obj))++[(s2.heap.objs.size,({cls:=.type "list",data:=.seq f'.toArray k}:Obj))]:=hp;simpa using z
   subst Vk;exact(fD b hb).symm
  rcases UU i n ys H5 w5 with⟨stop,hz,qn⟩|⟨go,hz,step⟩
  ·refine a_ (o_ (a_ (h_ (T.done (cV X sc N' G2.objs.size cl s2 H2 fp) rfl rfl rfl hc i _ s5 (eG ix σ) H5 (fun _ _=>False) Xf (VN V7) VG stop) (fun r s6⟨hr,I6⟩=>?_) fun _ _ f=>f.elim)));subst hr;refine c_ ?_;obtain⟨m,hn,_⟩:=I6.loc;have Z5:s6.heap.get? s2.heap.objs.size=some {cls:=.type "list",data:=.seq f'.toArray k}:=(I6.pin (s2.heap.objs.size,{cls:=.type "list",data:=.seq f'.toArray k}) (by show _∈([]:List (Ux×Obj))++_;simp)).1;have u6:Un (oH X.stack) fp H2 H5 s2.heap s6.heap:=I6.base;have YJ:H5 G2.objs.size=none:=I6.free;refine VQ _ _ (az H5 s2.heap.objs.size (.lst ys)) s6 ⟨?_,⟨m,hn⟩,by rw[ao WS.symm];exact YJ,(J' _ I2.lt).symm,fun x c q=>?_,J4 I2.sz VR,fun p hp=>?_⟩ (qn _ Vt)
   ·refine I2.call' (s':=s6) (ch:=fp) I6.os ?_ ?_ I6.bare fun b hb=>⟨(f2 b hb).2.2.2.1,(f2 b hb).2.1,(f2 b hb).2.2.2.2.1,(f2 b hb).2.2.2.2.2⟩
    ·refine⟨fun b o e n nf nx=>u6.keep b o e n nf nx,fun b o e n nf nx=>u6.slot b o e n nf nx,fun b o e n nx=>?_,fun b o e nx=>u6.there b o e nx,fun b xs e=>?_,fun b o u e=>?_,fun b ps e=>?_⟩
     ·rw[ao (UR b (JD e))];exact u6.free b o e n nx
     ·rw[ao (aI e HD)];exact u6.tups b xs e
     ·rw[ao (aI e HD)];exact u6.frzs b o u e
     ·rw[ao (aI e HD)];exact u6.tbls b ps e
    ·intro b o e;by_cases hb:b=s2.heap.objs.size
     ·subst hb;rw[ac]at e;cases e;exact⟨hz,f',k,vv,Z5⟩
     ·rw[ao hb]at e;refine(I6.hok b o e).stay (fun c v V6 q=>q) (fun c q=>?_) fun c xs q=>?_
      ·rw[ao (aI q Vt)];exact q
      ·rw[ao (aI q Vt)];exact q
   ·obtain⟨v,o,ho,hd⟩:=I2.cell x c q;exact J' c (JD ho)
   ·exact J' p.1 (JD (I2.pin p hp).1)
  ·refine a_ (o_ (a_ (h_ (T.item (cV X sc N' G2.objs.size cl s2 H2 fp) rfl rfl rfl hc i _ s5 (eG ix σ) H5 (fun _ _=>False) Xf (VN V7) VG go) (fun r s6⟨u,hr,h6⟩=>?_) fun _ _ f=>f.elim)));subst hr;refine a_ (h_ h6 (fun _ s7 hZZ=>?_) fun _ _ f=>f.elim);obtain⟨x,H7,I7,r7,y7,VF,XB⟩:=hZZ;have XC:=I7.pinned (VN XB) (T.obj _ _ VF);refine a_ (h_ (hg _ _ _ _ _ _ s7 (eG ix σ) H7 x u _ XC r7 (step x H7 y7)) (fun _ s8 hZZ=>?_) fun _ _ f=>f.elim);obtain⟨σ8,H8,I8,x8,q8⟩:=hZZ;obtain⟨xl,xv⟩:=x8.spec;have UW:∀{σ9:St}{H9:Hp}{s9:Uy}{pl:List (Ux×Obj)},(∀p∈ck fp s7.heap,p∈pl)->NO (cV X sc N' G2.objs.size cl s2 H2 fp) pl σ9 H9 s9->tn (i+1) s9.heap/\∀b∈fp,H9 b=none:=fun{σ9 H9 s9 pl}hp I9=>by
    have pn:∀b o,b∈fp->s7.heap.get? b=some o->s9.heap.get? b=some o/\H9 b=none:=fun b o hb e=>by
     have:=I9.pin (b,o) (JE _ (hp _ (da hb e)));exact⟨this.1,this.2.1⟩
    refine⟨T.keep _ _ _ VF fun b hb o e=>(pn b o hb e).1,fun b hb=>?_⟩;obtain⟨o,e,_⟩:=T.obj _ _ VF b hb;exact(pn b o hb e).2
   refine a_ (h_ (hf _ _ _ _ _ _ s8 σ8 H8 _ I8 q8) (fun ok s9⟨H9,I9,q9⟩=>?_) fun _ _ f=>f.elim);have pD:∀{σ9:St}{H9:Hp}{s9:Uy},NO (cV X sc N' G2.objs.size cl s2 H2 fp) ([(s2.heap.objs.size,({cls:=.type "list",data:=.seq f'.toArray k}:Obj))]++ck fp s7.heap) σ9 H9 s9->
     s9.heap.get? s2.heap.objs.size=some {cls:=.type "list",data:=.seq f'.toArray k}/\H9 s2.heap.objs.size=none:=fun{σ9 H9 s9}I9=>by
    have:=I9.pin (s2.heap.objs.size,{cls:=.type "list",data:=.seq f'.toArray k}) (JE _ (JZ _ (by simp)));exact⟨this.1,this.2.1⟩
   cases ok with
   |false=>
    obtain⟨m',hm,w9⟩:=(show ∃m',m'<n/\W (i+1) m' ys H9 from by simpa using q9);obtain⟨t9,WU⟩:=UW (fun p hp=>JE _ hp) I9;obtain⟨Z4,hD9⟩:=pD I9;refine c_ ⟨rfl,m',hm,i+1,ys,H9,f',k,(I9.pins_of (pins':=[]) fun p hp=>nomatch hp).weak xl xv,t9,WU,hD9,vv,Z4,w9⟩
   |true=>
    have Z1:te σ8 H9 fun y H4=>∃m',m'<n/\W (i+1) m' (ys++[y]) H4:=by simpa using q9
    refine a_ (a_ (h_ (he _ _ _ _ _ _ s9 σ8 H9 _ I9 Z1) (fun yv sA hZZ=>?_) fun _ _ f=>f.elim));obtain⟨y,HA,IA,rA,m',hm,wA⟩:=hZZ;obtain⟨Yb,Xy⟩:=pD IA;have hsz:f'.toArray.size<=sizeLine:=by rw[JJ,<-vv.length];exact hz
    refine a_ (wpAny_list_append_plain (hsz:=hsz) ⟨_,Yb⟩ fun h9 Z2 ZR=>?_);have IB:NO (cV X sc N' G2.objs.size cl s2 H2 fp) (ck fp s7.heap) σ8 HA sA:=IA.pins_of fun p hp=>IA.pin p (JE _ (JE _ hp));have IC:NO (cV X sc N' G2.objs.size cl s2 H2 fp) (ck fp s7.heap) σ8 HA {sA with heap:=h9}:=IB.turned (it:=s2.heap.objs.size) (t':=sA.toks) (fun b o hb e=>(ZR.2 b hb).trans e) Xy WS (.inr (JB _)) (fun x c q=>Wp x c q) fun p hp=>by
     have Vk:p∈ck fp s7.heap:=by
      have z:p∈([]:List (Ux×Obj))++ck fp s7.heap:=hp;simpa using z
     exact fD p.1 (fT Vk).1
    obtain⟨t9,WU⟩:=UW (fun p hp=>hp) IC;obtain⟨k',Z6⟩:=Z2;refine c_ (c_ ⟨rfl,m',hm,i+1,ys++[y],HA,f'++[yv],k',(IC.pins_of (pins':=[]) fun p hp=>nomatch hp).weak xl xv,t9,WU,Xy,vv.append (.cons rA .nil),?_,wA⟩);show h9.get? s2.heap.objs.size=_;rw[Z6];simp
 exact codeAny_compStart_list (loop _ rfl) (T.self X.A 0 _ _ _ (T.keep _ _ _ V2 (fun b _ o e=>UH b o e)) (loop _ rfl))
def cI(hc:X.calm=true)(Vh:jX N sc0 sc N' ix=true)(hi:PI X tg iter wi)
  (hg:∀C cl s H fp,PG (cV X sc N' C cl s H fp) tg g) (hf:∀C cl s H fp,PF (cV X sc N' C cl s H fp) L' tf) (he:∀C cl s H fp,PE (cV X sc N' C cl s H fp) S' te)
  (eN:X.N=N:=by rfl) (eS:X.env.scope=sc0:=by rfl) (hs:∀x,foldedSetIterable iter X.env x=pure x:=by intro _;rfl) :
  PE X (.ListComp S' [⟨tg,iter,L',0⟩] sc pos) (Hy wi g tf te ix):=by
 refine⟨?_⟩;intro K3 s σ H Q I h;subst eN eS;rw[eval_ListComp];refine sJ (use:=none) hc Vh hi hg hf he hs I h fun C D H' s' L q=>?_;obtain⟨m,hn⟩:=L.ns;exact⟨m,hn,fun h' sb=>⟨.ref D,H',L.gone sb,rfl,q⟩⟩
def ww(i:Nat)(t:TE):TS:=fun D σ H=>t σ H fun v H1=>D.nx (σ.set i (some v)) H1
def dh(hN:X.N.Nodup)(hiy:X.N[i]?=some y)(hy:X.env.scope.names.lookup y=some .local)(hc:X.calm=true)(Vh:jX N sc0 sc N' ix=true)(hi:PI X tg iter wi)
  (hg:∀C cl s H fp,PG (cV X sc N' C cl s H fp) tg g) (hf:∀C cl s H fp,PF (cV X sc N' C cl s H fp) L' tf) (he:∀C cl s H fp,PE (cV X sc N' C cl s H fp) S' te)
  (eN:X.N=N:=by rfl) (eS:X.env.scope=sc0:=by rfl) (hs:∀x,foldedSetIterable iter X.env x=pure x:=by intro _;rfl)
  (hsw:swapsWith (.ListComp S' [⟨tg,iter,L',0⟩] sc pos) (some (.Name y py)) WX.line X.env=pure true:=by rfl) :
  PS X (.Assign [.Name y py] (.ListComp S' [⟨tg,iter,L',0⟩] sc pos) WX) (ww i (Hy wi g tf te ix)):=by
 refine⟨?_⟩;intro K3 s σ H Dn I h;subst eN eS;rw[exec_Assign_Name_used _ _ _ _ hsw];refine a_ (o_ (a_ ?_));show wpAny _ X.A (do let _ <-comprehension (.ListComp S' [⟨tg,iter,L',0⟩] sc pos) sc X.env _ (newList []) false (eval iter X.env) (some (assign (.Name y py) X.env))) _ _ s;refine a_ (h_ (sJ (use:=some (assign (.Name y py) X.env)) (Qf:=fun _ s'=>SP X K3 Dn .next s') hc Vh hi hg hf he hs I h fun C D H' s' L q=>?_) (fun _ s' hq=>c_ (c_ hq)) fun _ _ e=>e);show wpAny _ X.A (assign (.Name y py) X.env (.ref D)) _ _ s';refine SD (iz L.inv hN hiy (.inl hy) (v:=.ref D) rfl (fun s1 I1 Yk=>?_) (.inr hy));obtain⟨a,sb,ha⟩:=Yk;have Yz:C≠a:=by
  rcases ha with z|z
  ·rw[z];exact L.loc
  ·exact(L.cel y a z).symm
 obtain⟨m,hn⟩:=L.ns;have L1:OU X K3 (σ.set i (some (.ref D))) H' s1 C:=⟨I1,⟨m,hn.sameBut sb Yz⟩,L.free,L.loc,L.cel,L.abv,L.pin⟩;exact⟨m,hn.sameBut sb Yz,fun h' ZS=>⟨_,H',L1.gone ZS,q⟩⟩
end
end L2
namespace L2
open PySem
def Nx(Pv:Nat->UG->Hp->Prop)(n i:Nat)(ys:UG)(H:Hp):Prop:=∃m',m'<n-i/\(m'=n-(i+1)/\i+1<=n/\Pv (i+1) ys H)
def Nx.mk(h:i<n)(p:Pv (i+1) ys H):Nx Pv n i ys H:=⟨n-(i+1),zo,rfl,h,p⟩
def db(Pv:Nat->UG->Hp->Prop)(h0:Pv 0 [] H)
  (hl:∀i ys H,i<=xs.length->Pv i ys H->NQ K H a xs/\ys.length<=sizeLine)
  (hs:∀i x ys H,xs[i]?=some x->Pv i ys H->g x (eG ix σ) H fun σ2 H2=>Ob (eG ix σ) σ2/\tf σ2 H2 fun b H3=>if b=true then te σ2 H3 fun y H4=>Nx Pv xs.length i (ys++[y]) H4 else Nx Pv xs.length i ys H3)
  (hd:∀ys H,Pv xs.length ys H->∀D,H D=none->Q (.ref D) (az H D (.lst ys))) :
  uz (Be K a) g tf te ix σ H Q:=by
 refine⟨fun i m ys H=>m=xs.length-i/\i<=xs.length/\Pv i ys H,⟨xs.length,by simp,JN _,h0⟩,?_⟩;rintro i m ys H ⟨rfl,hi,p⟩;obtain⟨q,hz⟩:=hl i ys H hi p;by_cases Ld:i<xs.length
 ·refine .inr ⟨⟨xs,xs[i],q,by simp[Ld]⟩,hz,fun x H' y=>?_⟩;obtain⟨e,y⟩:=y;subst e;exact hs i x ys _ (y xs q) p
 ·have e:i=xs.length:=by lia
  subst e;exact .inl ⟨⟨xs,q,JB _⟩,hz,hd ys H p⟩
def di(Pv:Nat->UG->Hp->Prop)(h0:Pv 0 [] H)
  (hl:∀i ys H,i<=n->Pv i ys H->ys.length<=sizeLine)
  (hs:∀i ys H,i<n->Pv i ys H->g (.int (lo+i)) (eG ix σ) H fun σ2 H2=>Ob (eG ix σ) σ2/\tf σ2 H2 fun b H3=>if b=true then te σ2 H3 fun y H4=>Nx Pv n i (ys++[y]) H4 else Nx Pv n i ys H3)
  (hd:∀ys H,Pv n ys H->∀D,H D=none->Q (.ref D) (az H D (.lst ys))) :
  uz (zr lo n) g tf te ix σ H Q:=by
 refine⟨fun i m ys H=>m=n-i/\i<=n/\Pv i ys H,⟨n,by simp,JN _,h0⟩,?_⟩;rintro i m ys H ⟨rfl,hi,p⟩;have hz:=hl i ys H hi p;by_cases Ld:i<n
 ·refine .inr ⟨Ld,hz,fun x H' y=>?_⟩;obtain⟨e,y⟩:=y;subst e y;exact hs i ys _ Ld p
 ·have e:i=n:=by lia
  subst e;exact .inl ⟨JB _,hz,hd ys H p⟩
def bC{σ:St}{H:Hp}{A B:Hp->Prop}(h:A H):Fq σ H fun b H3=>if b=true then A H3 else B H3:=by
 show if true=true then A H else B H;rw[g_ rfl];exact h
end L2
namespace L2
open PySem PySem.Spec PyProof.Rows
def oQ(w:UA)(p:Str×V)(e:DictEntry):Prop:=e.hash=hashStr w p.1/\(∃t,e.key=.str p.1 t)/\NY p.2 e.val
def dc(w:UA)(K:ZF)(a:Ux)(kvs:List (Str×V)):Prop:=
 ∃(es:Array DictEntry)(ep:Nat),K.lookup a=some {cls:=.type "dict",data:=.dict es ep}/\Paired (oQ w) kvs es.toList
def gE:∀{kvs:List (Str×V)}{es:List DictEntry},Paired (oQ w) kvs es->kvs.lookup k=some v->
  ∃e,es.find? (fun e=>(strKind P w).is k e.key)=some e/\NY v e.val
 |_,_,.nil,h=>by cases h
 |(x,y)::r,e::es,.cons h t,hk=>by
  obtain⟨h1,⟨tk,h2⟩,h3⟩:=h;rw[J6]at hk;have his:(strKind P w).is k e.key=(k==x):=by
   rw[h2];show Value.isStrOf k (.str x tk)=_;by_cases z:k=x
   ·subst z;simp[Value.isStrOf]
   ·have z':(k==x)=false:=by simpa using z
    rw[z'];cases q:Value.isStrOf k (Value.str x tk)with
    |false=>rfl
    |true=>
     obtain⟨t',e'⟩:=RQ q;injection e' with e1 _;exact absurd e1.symm z
  rw[Ku,his];cases z:k==x with
  |true=>
   rw[z]at hk;cases hk;exact⟨e,rfl,h3⟩
  |false=>
   rw[z]at hk;exact gE t hk
def gX:∀{kvs:List (Str×V)}{es:List DictEntry},Paired (oQ w) kvs es->∀e∈es,∃k,(strKind P w).is k e.key=true/\e.hash=(strKind P w).hash k
 |_,_,.nil,_,h=>nomatch h
 |(x,y)::r,e::es,.cons h t,e',he=>by
  rcases JT.mp he with z|z
  ·subst z;obtain⟨h1,⟨tk,h2⟩,h3⟩:=h;refine⟨x,?_,h1⟩;rw[h2];show Value.isStrOf x (.str x tk)=true;simp[Value.isStrOf]
  ·exact gX t e' z
section
inductive Fs(w:UA)(K:ZF)(x:V)(y:V)(H:Hp)(Q:VK):Prop
 |mk(a kvs k v:_):x=.ref a->dc w K a kvs->y=.str k->kvs.lookup k=some v->Q v H->Fs w K x y H Q
def wx:Co X (Fs X.w X.K):=by
 intro value UI K3 s σ H x y v u Q I rx ry h hs;obtain⟨a,kvs,k,z,rfl,⟨es,ep,hk,hp⟩,rfl,hl,q⟩:=h;cases rx;obtain⟨t,rfl⟩:=ry;have ho:=I.kIn a _ hk;obtain⟨e,he,re⟩:=gE (P:=X.prog) hp hl;have hm:s.heap.MapOf (strKind X.prog X.w) a (fun k=>findBy (strKind X.prog X.w).is es k):=⟨_,es,ep,ho,⟨rfl,rfl,rfl⟩,rfl,fun e V5=>gX hp e (by simpa using V5),fun _=>rfl⟩;have hf:findBy (strKind X.prog X.w).is es k=some e.val:=by
  unfold findBy;rw[<-Sl,he];rfl
 refine PyProof.Rows.tail_any (T:="dict") ⟨_,ho,rfl⟩ slot_dict_getitem.lookup (wpAny_getItem_of (knd:=strKind X.prog X.w) (k:=k) (by show Value.isStrOf k (.str k t)=true;simp[Value.isStrOf]) hm hf ?_) hs;exact⟨z,H,I.tok _,re,q⟩
inductive sK(X:Cx)(t:TA)(σ:St)(Q:VK)(v:V)(H1:Hp):Prop
 |mk(f:Ux)(fd:UC)(k:Nat)(ps:UD)(sp:Sp):v=.ref f->NN X.prog X.w X.K X.mg X.base br k f fd ps sp->NZ k X.A->PySem.W.keepIn X.K (.ref f)=true->N7 X.K fd ps []->(t σ H1 fun vs H2=>sp vs H2 Q E0)->sK X t σ Q v H1
def Cy(X:Cx)(tv:TE)(t:TA):TE:=fun σ H Q=>tv σ H fun v H1=>sK X t σ Q v H1
def wy(hv:PE X (.Name x p) tv)(ha:PA X (e::es) t)
  (he:starEach (e::es) X.env=(false,eval e X.env)::starEach es X.env:=by rfl) (Vm:(backTo pos (starEach es X.env)).any (·.1)=false:=by rfl) :
  PE X (.Call (.Name x p) (e::es) [] pos) (Cy X tv t):=by
 refine⟨?_⟩;intro K3 s σ H Q I h;refine x_ (bN (hv K3 s σ H _ I h) fun u s1 hZZ=>?_);obtain⟨v,H1,I1,r1,q1⟩:=hZZ;obtain⟨f,fd,k,ps,sp,rfl,F,hr,hk,hb,q⟩:=q1;cases r1;refine KM (h₀:=X.base) I1.ok.mod.kin hk (bN (ha pos K3 s1 σ H1 _ I1 q) fun us s2⟨vs,H2,I2,r,q2⟩=>⟨I2.kIn,?_⟩) he Vm;exact iF (dvs:=[]) (ds:=[]) F hr hb .nil dR I2 r (by rw[Ko];exact q2)
end
mutual
inductive Dt(K:ZF)(H:Hp):V->PyData->Prop
 |non:Dt K H .non .none
 |bl (b:Bool):Dt K H (.bl b) (.bool b)
 |int (i:Int):Dt K H (.int i) (.int i)
 |str (x:Str):Dt K H (.str x) (.str x)
 |lst {a:Ux} {xs:UG} {ds:List PyData}:NQ K H a xs->N4 K H xs ds->Dt K H (.ref a) (.list ds)
 |tup {a:Ux} {xs:UG} {ds:List PyData}:NL K H a xs->N4 K H xs ds->Dt K H (.ref a) (.tuple ds)
inductive N4(K:ZF)(H:Hp):UG->List PyData->Prop
 |nil:N4 K H [] []
 |cons {v:V} {d:PyData} {vs:UG} {ds:List PyData}:Dt K H v d->N4 K H vs ds->N4 K H (v::vs) (d::ds)
end
section
mutual
def Dt.reads(I:NO X K3 σ H s):∀{v:V}{d:PyData}{u:Uw},Dt X.K H v d->NY v u->∃as,Reads s.heap u d as
 |_,_,_,.non,r=>by cases r;exact⟨_,.none⟩
 |_,_,_,.bl b,r=>by cases r;exact⟨_,.bool b⟩
 |_,_,_,.int i,r=>by obtain⟨t,rfl⟩:=r;exact⟨_,.int i t⟩
 |_,_,_,.str x,r=>by obtain⟨t,rfl⟩:=r;exact⟨_,.str x t⟩
 |_,_,_,.lst hS hA,r=>by
  cases r;obtain⟨f',rv,⟨o,n,e,c,dd,hd⟩,hz⟩:=I.list hS;obtain⟨as,ha⟩:=N4.reads I hA rv;first
   |exact⟨_,.list e c hd (by simpa using ha)⟩
   |exact⟨_,.list e c dd (by simpa using ha)⟩
 |_,_,_,.tup hS hA,r=>by
  cases r;obtain⟨f',rv,⟨o,e,c,n,hd⟩,hz⟩:=I.tuple hS;obtain⟨as,ha⟩:=N4.reads I hA rv;exact⟨_,.tuple e c hd (by simpa using ha)⟩
def N4.reads(I:NO X K3 σ H s):∀{vs:UG}{ds:List PyData}{us:List Uw},N4 X.K H vs ds->NV vs us->∃as,ReadsAll s.heap us ds as
 |_,_,_,.nil,.nil=>⟨_,.nil⟩
 |_,_,_,.cons h t,.cons r rr=>by
  obtain⟨a1,h1⟩:=Dt.reads I h r;obtain⟨a2,h2⟩:=N4.reads I t rr;exact⟨_,.cons h1 h2⟩
end
end
section
inductive RJ(K:ZF)(x:V)(y:V)(H:Hp)(Q:VK):Prop
 |mk(dx dy:_):Dt K H x dx->Dt K H y dy->dx.canLay0=true->dy.canLay0=true->min dx.depth dy.depth<=60->Q (.bl (PyData.eqv dx dy)) H->RJ K x y H Q
inductive Rs(K:ZF)(x:V)(y:V)(H:Hp)(Q:VK):Prop
 |mk(dx dy:_):Dt K H x dx->Dt K H y dy->dx.canLay0=true->dy.canLay0=true->min dx.depth dy.depth<=60->Q (.bl (!PyData.eqv dx dy)) H->Rs K x y H Q
def Pd(hr:NZ k X.A):eM X (compareOp .Eq) (RJ X.K):=by
 intro K3 s σ H x y v u Q I rx ry h;obtain⟨dx,dy,h1,h2,c1,c2,dp,q⟩:=h;obtain⟨as,ra⟩:=h1.reads I rx;obtain⟨bs,rb⟩:=h2.reads I ry;exact SeqAt.compareEq_reads ra rb c1 c2 (by have:=hr.un;lia) ⟨.bl _,H,I,rfl,q⟩
def QE(hr:NZ k X.A):eM X (compareOp .NotEq) (Rs X.K):=by
 intro K3 s σ H x y v u Q I rx ry h;obtain⟨dx,dy,h1,h2,c1,c2,dp,q⟩:=h;obtain⟨as,ra⟩:=h1.reads I rx;obtain⟨bs,rb⟩:=h2.reads I ry;exact SeqAt.compareNe_reads ra rb c1 c2 (by have:=hr.un;lia) ⟨.bl _,H,I,rfl,q⟩
end
def NO.turnedS{X:Cx}{K3:List (Ux×Obj)}{σ:St}{H H':Hp}{s:Uy}{h':Heap}{t':Nat}{ch:List Ux}(I:NO X K3 σ H s)(hf:∀b∈ch,Of X K3 H b)
  (k:∀b o,b∉ch->s.heap.get? b=some o->h'.get? b=some o) (hH:∀b o,H b=some o->H' b=some o) (hN:∀b,b<s.heap.objs.size->H b=none->H' b=none)
  (new:∀b o,H b=none->H' b=some o->N2 X.prog X.w H' h' b o):NO X K3 σ H' {s with heap:=h',toks:=t'}:=by
 refine I.step (g':=s.gens) (d':=s.drawn) (ch:=ch) (fun b hb=>?_) (fun b o _ _ hc e _=>k b o hc e) (fun b o _ _ hc e _=>⟨o.slots,k b o hc e⟩) (fun b o _ e n=>hN b (JD e) n)
  (fun b o hc e=>⟨o,k b o hc e⟩) (fun b xs e=>hH b _ e) (fun b o u e=>hH b _ e) (fun b ps e=>⟨#[],by rw[hH b _ e];simp⟩) (fun m hm=>?_) (fun b u e=>?_) I.bare
 ·obtain⟨_,f1,_,f3,f4,f5⟩:=hf b hb;exact⟨f3,f1,f4,f5⟩
 ·obtain⟨o,es,ep,ho,r⟩:=hm;exact⟨o,es,ep,k _ o (fun z=>(hf _ z).2.1 rfl) ho,r⟩
 ·cases q:H b with
  |none=>exact new b u q e
  |some v=>
   rw[hH b v q]at e;cases e;refine(I.hok b u q).stay (fun c v hc q'=>k c v (fun z=>?_) q') (fun c q'=>hH c _ q') fun c xs q'=>hH c _ q';have n:=(hf c z).1;rcases hc with rfl|hc
   ·rw[q]at n;cases n
   ·rw[hc]at n;cases n
section
def wz:bootBuiltins "zip"=some (.type "zip"):=by decide +kernel
end
section
def dU(hg:Gl X x)(hm:X.mg x=none)(hv:bootBuiltins x=some (.type n))(hn:x≠"__name__":=by decide)(hd:(x==("__debug__":Str))=false:=by decide):PE X (.Name x pos) (tC (.ty n)):=
 zq hg hm hv rfl hn hd
def lE:∀{kvs:List (Str×V)}{es:List DictEntry},Paired (oQ w) kvs es->∃vs:List (Str×Uw),Pairs (strKind P w) es vs/\vs.map (·.1)=kvs.map (·.1)
 |_,_,.nil=>⟨[],.nil,rfl⟩
 |(x,y)::r,e::es,.cons h t=>by
  obtain⟨vs,p,q⟩:=lE (P:=P) t;obtain⟨h1,⟨tk,h2⟩,h3⟩:=h;refine⟨(x,e.val)::vs,.cons ?_ rfl p,by rw[J9,J9,q]⟩;rw[h2];show Value.isStrOf x (.str x tk)=true;simp[Value.isStrOf]
def lF:∀{ks:UD}{us:List Uw},us.length=ks.length->(∀(j:Nat)k u,ks[j]?=some k->us[j]?=some u->(strKind P w).is k u=true)->NV (ks.map V.str) us
 |[],[],_,_=>.nil
 |k::ks,[],h,_=>by cases h
 |[],u::us,h,_=>by cases h
 |k::ks,u::us,h,hv=>by
  refine .cons ?_ (lF (P:=P) (w:=w) (by simpa using h) fun j k' u' a b=>hv (j+1) k' u' (by simpa using a) (by simpa using b));obtain⟨t,e⟩:=RQ (hv 0 k u rfl rfl);exact⟨t,e⟩
def kZ(hc:X.calm=true):cH X (.type "list") (fun xs H Q=>∃a kvs,xs=[.ref a]/\dc X.w X.K a kvs/\(kvs.map (·.1)).Nodup/\(a==sysModules)=false/\kvs.length<=1000/\∀p,H p=none->Q (.ref p) (az H p (.lst (kvs.map fun kv=>V.str kv.1)))):=by
 intro K3 s σ H xs us Q I r h;obtain⟨a,kvs,rfl,⟨es,ep,hk,hp⟩,nd,lo,hz,q⟩:=h;cases r with
 |cons r0 rr=>
  cases rr;cases r0;have ho:=I.kIn a _ hk;obtain⟨vs,pv,ek⟩:=lE (P:=X.prog) hp;have WR:s.heap.DictAt (strKind X.prog X.w) a vs ep:=⟨_,es,ho,⟨rfl,rfl,rfl⟩,rfl,fun e V5=>gX hp e (by simpa using V5),pv,by rw[ek];exact nd⟩;have hl:vs.length=kvs.length:=by
   have:=i_ List.length ek;simpa using this
  have sz:(1000:Nat)<=sizeLine:=by decide
  refine PySem.W.kdl_call (PySem.W.kdl_dict (knd:=strKind X.prog X.w) (kvs:=vs) (ep:=ep) lo) (I.ok.hd hc) WR zo fun h' tk YY c' Y1 hD Vv=>?_;have hv:NV ((kvs.map (·.1)).map V.str) YY.toList:=by
   refine lF (P:=X.prog) (w:=X.w) (by rw[Kt,Vv.1,JC,hl]) fun j k u e1 e2=>?_;obtain⟨k',x',e3,e4⟩:=Vv.2 j u (by rw[<-R8];exact e2);rw[<-ek,J5,e3]at e1;have:k'=k:=by simpa using e1
   rw[<-this];exact e4
  have e0:kvs.map (fun kv=>V.str kv.1)=(kvs.map (·.1)).map V.str:=by rw[KR];rfl
  refine⟨.ref s.heap.objs.size,az H s.heap.objs.size (.lst (kvs.map fun kv=>V.str kv.1)),I.laid (t':=tk) Y1 (JB _) ?_,rfl,q _ (I.hok.fresh (JB _))⟩;refine⟨by rw[JC];lia,YY.toList,c',by rw[e0];exact hv,?_⟩;rw[hD]
end
end L2
namespace TK
def gq(c:Nat):Bool:=c==32||c==10
def dE(c:Nat):Bool:=[40,41,123,125,91,93,44,59,43,45,38,124,94,60,61].contains c
def jh:UE->Nat
 |[]=>0
 |[c]=>if dE c then 1 else 0
 |c::d::_=>if(c==60&&d==60)||(c==62&&d==62)then 2 else if dE c then 1 else 0
def run:UE->Nat
 |[]=>0
 |c::r=>if gq c||jh (c::r) != 0 then 0 else 1+run r
def fV(c:Nat):jh [c]=if dE c=true then 1 else 0:=rfl
def dW(c d:Nat)(r:UE):jh (c::d::r)=if((c==60&&d==60)||(c==62&&d==62))=true then 2 else if dE c=true then 1 else 0:=rfl
def cC(c:Nat)(r:UE):run (c::r)=if(gq c||jh (c::r) != 0)=true then 0 else 1+run r:=by rw[run]
def mq(l:UE):jh l<=l.length:=by
 match l with
 |[]=>simp[jh]
 |[c]=>rw[fV];split<;>simp
 |c::d::r=>rw[dW];split<;>(try split)<;>simp
def mr:∀l:UE,run l<=l.length
 |[]=>by simp[run]
 |c::r=>by
  have:=mr r;rw[cC];split<;>simp<;>lia
def one(l:UE):Nat:=if jh l=0 then run l else jh l
def jw(h:gq c=false):0<one (c::r):=by
 unfold one;by_cases e:jh (c::r)=0
 ·rw[g_ e];rw[cC,h,e];simp;lia
 ·rw[e_ e];lia
def Cz(l:UE):one l<=l.length:=by
 unfold one;split
 ·exact mr l
 ·exact mq l
def gu:Nat->UE->List (UE)
 |0,_=>[]
 |_,[]=>[]
 |n+1,c::r=>if gq c then gu n r else(c::r).take (one (c::r))::gu n ((c::r).drop (one (c::r)))
def gF:∀(n m:Nat)(l:UE),l.length<=n->l.length<=m->gu n l=gu m l
 |0,0,_,_,_=>rfl
 |0,m+1,l,h,_=>by
  have:l=[]:=KE.mp zo;subst this;rfl
 |n+1,0,l,_,h=>by
  have:l=[]:=KE.mp zo;subst this;rfl
 |n+1,m+1,[],_,_=>rfl
 |n+1,m+1,c::r,h1,h2=>by
  simp only[JX]at h1 h2;unfold gu;by_cases g:gq c=true
  ·rw[g_ g,g_ g];exact gF n m r zo zo
  ·rw[e_ g,e_ g];have p:=jw (r:=r) (by simpa using g);rw[gF n m _ (by rw[Kp,JX];lia) (by rw[Kp,JX];lia)]
def toks(l:UE):List (UE):=gu l.length l
def wB:toks []=[]:=rfl
def gY(h:gq c=true):toks (c::r)=toks r:=by
 unfold toks;rw[JX];show(if gq c then gu r.length r else _)=_;rw[g_ h]
def oR(h:gq c=false):toks (c::r)=(c::r).take (one (c::r))::toks ((c::r).drop (one (c::r))):=by
 unfold toks;rw[JX];show(if gq c then _ else(c::r).take (one (c::r))::gu r.length ((c::r).drop (one (c::r))))=_;rw[e_ (by rw[h];decide)];have p:=jw (r:=r) h;rw[gF r.length _ _ (by rw[Kp,JX];lia) (JB _)]
structure Tok(t:UE):Prop where
 cut:∀s:UE,(s=[]\/∃c r,s=c::r/\gq c=true)->one (t++s)=t.length
 ne:t≠[]
 ng:∀c∈t,gq c=false
def oS(h:Tok t)(hs:s=[]\/∃c r,s=c::r/\gq c=true):toks (t++s)=t::toks s:=by
 cases t with
 |nil=>exact absurd rfl h.ne
 |cons c r=>
  have g:=h.ng c JF;have e:=h.cut s hs;rw[Kr]at e⊢;rw[oR g,e];have e1:(c::(r++s)).take (c::r).length=c::r:=by rw[<-Kr,List.take_left'];rfl
  have e2:(c::(r++s)).drop (c::r).length=s:=by rw[<-Kr,List.drop_left'];rfl
  rw[e1,e2]
def sL:∀(l s:UE),(s=[]\/∃c r,s=c::r/\gq c=true)->run (l.take (run l)++s)=run l
 |[],s,hs=>by
  rcases hs with rfl|⟨c,r,rfl,g⟩
  ·rfl
  ·show run (c::r)=0;rw[cC,g];simp
 |c::r,s,hs=>by
  by_cases q:(gq c||jh (c::r) != 0)=true
  ·have e:run (c::r)=0:=by rw[cC,g_ q]
   rw[e];rcases hs with rfl|⟨d,r',rfl,g⟩
   ·rfl
   ·show run (d::r')=0;rw[cC,g];simp
  ·have e:run (c::r)=1+run r:=by rw[cC,e_ q]
   rw[e,Sq 1,Se,Kr];have ih:=sL r s hs;simp at q;obtain⟨qg,qs⟩:=q;have q2:(gq c||jh (c::(r.take (run r)++s)) != 0)=false:=by
    rw[qg];simp;have sc:dE c=false:=by
     cases r with
     |nil=>
      rw[fV]at qs;split at qs
      ·cases qs
      ·rename_i nn;simpa using nn
     |cons d r2=>
      rw[dW]at qs;split at qs
      ·cases qs
      ·split at qs
       ·cases qs
       ·rename_i nn;simpa using nn
    cases hh:r.take (run r)++s with
    |nil=>rw[fV,sc];rfl
    |cons d r2=>
     rw[dW,sc];have nd:((c==60&&d==60)||(c==62&&d==62))=false:=by
      cases r with
      |nil=>
       rw[List.take_nil,KS]at hh;rcases hs with z|⟨c2,r3,z,g⟩
       ·rw[z]at hh;cases hh
       ·rw[z]at hh;injection hh with h1 _;subst h1;unfold gq at g;simp at g;rcases g with rfl|rfl<;>simp
      |cons d2 r3=>
       by_cases z0:run (d2::r3)=0
       ·rw[z0,List.take_zero,KS]at hh;rcases hs with z|⟨c2,r4,z,g⟩
        ·rw[z]at hh;cases hh
        ·rw[z]at hh;injection hh with h1 _;subst h1;unfold gq at g;simp at g;rcases g with rfl|rfl<;>simp
       ·obtain⟨k,hk⟩:∃k,run (d2::r3)=k+1:=⟨run (d2::r3)-1,zo⟩;rw[hk,Se,Kr]at hh;injection hh with h1 _;subst h1;rw[dW]at qs;split at qs
        ·cases qs
        ·rename_i nn;simpa using nn
     rw[nd];rfl
   rw[show run (c::(r.take (run r)++s))=1+run (r.take (run r)++s)by rw[cC,e_ (by rw[q2];decide)],ih,Sq]
def wC:∀(l:UE),∀c∈l.take (run l),gq c=false
 |[],_,h=>by cases h
 |c::r,d,h=>by
  by_cases q:(gq c||jh (c::r) != 0)=true
  ·rw[cC,g_ q]at h;cases h
  ·rw[cC,e_ q,Sq,Se]at h;rcases JT.mp h with z|z
   ·subst z;simp at q;exact q.1
   ·exact wC r d z
def uA(h:((c==60&&d==60)||(c==62&&d==62))=true):gq c=false/\gq d=false:=by
 simp at h;rcases h with⟨rfl,rfl⟩|⟨rfl,rfl⟩<;>exact⟨rfl,rfl⟩
def uB(h:gq d=true):((c==60&&d==60)||(c==62&&d==62))=false:=by
 unfold gq at h;simp at h;rcases h with rfl|rfl<;>simp
def zL(h:gq c=false):Tok ((c::r).take (one (c::r))):=by
 by_cases e:jh (c::r)=0
 ·have o:one (c::r)=run (c::r):=g_ e;have rp:0<run (c::r):=by rw[<-o];exact jw h
  rw[o];refine⟨fun s hs=>?_,fun z=>?_,wC _⟩
  ·have rc:=sL (c::r) s hs;have s0:jh ((c::r).take (run (c::r))++s)=0:=by
    cases hh:(c::r).take (run (c::r))++s with
    |nil=>rfl
    |cons d r2=>
     rw[hh,cC]at rc;split at rc
     ·lia
     ·rename_i nn;simp at nn;exact nn.2
   unfold one;rw[g_ s0,rc,JU];have:=mr (c::r);lia
  ·have:=i_ List.length z;rw[JU]at this;have:=mr (c::r);simp at*;lia
 ·have o:one (c::r)=jh (c::r):=e_ e;rw[o];have key:(dE c=true/\jh (c::r)=1)\/∃d r2,r=d::r2/\((c==60&&d==60)||(c==62&&d==62))=true/\jh (c::r)=2:=by
   cases r with
   |nil=>
    rw[fV]at e⊢;split at e
    ·rename_i nn;exact .inl ⟨nn,by rw[g_ nn]⟩
    ·exact absurd rfl e
   |cons d r2=>
    rw[dW]at e⊢;by_cases nn:((c==60&&d==60)||(c==62&&d==62))=true
    ·exact .inr ⟨d,r2,rfl,nn,by rw[g_ nn]⟩
    ·rw[e_ nn]at e⊢;by_cases n2:dE c=true
     ·exact .inl ⟨n2,by rw[g_ n2]⟩
     ·rw[e_ n2]at e;exact absurd rfl e
  rcases key with⟨sc,se⟩|⟨d,r2,rfl,dd,se⟩
  ·rw[se];refine⟨fun s hs=>?_,by simp,fun x hx=>?_⟩
   ·show one (c::s)=1;have:jh (c::s)=1:=by
     rcases hs with rfl|⟨d,r2,rfl,g⟩
     ·rw[fV,g_ sc]
     ·rw[dW,uB g,e_ zd,g_ sc]
    unfold one;rw[this];rfl
   ·have:x=c:=by simpa using hx
    rw[this];exact h
  ·rw[se];refine⟨fun s hs=>?_,by simp,fun x hx=>?_⟩
   ·show one (c::d::s)=2;have:jh (c::d::s)=2:=by rw[dW,g_ dd]
    unfold one;rw[this];rfl
   ·have Vl:x=c\/x=d:=by simpa using hx
    rcases Vl with z|z
    ·rw[z];exact h
    ·rw[z];exact(uA dd).2
def iG:∀(n:Nat)(l:UE),∀t∈gu n l,Tok t
 |0,_,_,h=>by cases h
 |n+1,[],_,h=>by cases h
 |n+1,c::r,t,h=>by
  unfold gu at h;by_cases g:gq c=true
  ·rw[g_ g]at h;exact iG n r t h
  ·rw[e_ g]at h;rcases JT.mp h with z|z
   ·rw[z];exact zL (by simpa using g)
   ·exact iG n _ t z
def wD(l:UE):∀t∈toks l,Tok t:=iG _ l
def lG:∀(s l:UE),(∀c∈s,gq c=true)->toks (s++l)=toks l
 |[],_,_=>rfl
 |c::r,l,h=>by
  rw[Kr,gY (h c JF)];exact lG r l fun d hd=>h d (JV _ hd)
def jn(Le:UE):List (UE)->UE
 |[]=>[]
 |[t]=>t
 |t::u::r=>t++(Le++jn Le (u::r))
end TK
namespace L2
open PySem PySem.Spec PyProof.Rows
def S(l:UE):Str:=⟨l.toArray⟩
def bG(l:UE):(S l).length=l.length:=by show l.toArray.size=_;simp
def Q4:S a=S b↔a=b:=⟨fun h=>by
 have:(S a).cps.toList=(S b).cps.toList:=by rw[h]
 simpa[S]using this,fun h=>by rw[h]⟩
def fg(l:UE)(lo hi:Option Int):UE:=(l.drop (HT.sIx l.length 0 lo)).take (HT.sIx l.length l.length hi-HT.sIx l.length 0 lo)
def zM(n:Nat)(v:Option Int)(d:Nat)(hd:d<=n):HT.sIx n d v<=n:=by
 cases v with
 |none=>exact hd
 |some i=>
  show(if i<0 then(i+(n:Int)).toNat else min i.toNat n)<=n;split<;>lia
open PySem.Builtin.Str in
def oT(lo hi:Option Int)(n:Nat):strSliceIndices lo hi 1 n=(List.range (HT.sIx n n hi-HT.sIx n 0 lo)).map (HT.sIx n 0 lo+·):=by
 have YX:∀(v:Option Int)(d:Nat),d<=n->(match v with|none=>(d:Int)|some i=>max 0 (min (if i<0 then i+(n:Int)else i) n))=((HT.sIx n d v:Nat):Int):=fun v d hd=>by
  cases v with
  |none=>rfl
  |some i=>
   show max 0 (min (if i<0 then i+(n:Int)else i) (n:Int))=(((if i<0 then(i+(n:Int)).toNat else min i.toNat n:Nat)):Int);by_cases h:i<0
   ·rw[g_ h,g_ h];lia
   ·rw[e_ h,e_ h];lia
 have c1:=YX lo 0 (JN _);have c2:=YX hi n (JB _);rw[<-sliceRange_one];rw[<-c1,<-c2];unfold strSliceIndices;simp only[show(1:Int)>0 by decide,if_true];cases lo<;>cases hi<;>rfl
def jY(l:UE)(a:Nat):∀k,((List.range k).map (a+·)).filterMap (fun i=>l.toArray[i]?)=(l.drop a).take k
 |0=>by simp
 |k+1=>by
  rw[Kz,JR,List.filterMap_append,jY l a k,List.take_add_one]
  congr 1
  rw[List.getElem?_drop];cases q:l[a+k]? with
  |none=>simp[KG,q]
  |some v=>simp[KG,q]
open PySem.Builtin.Str in
def oU(l:UE)(lo hi:Option Int):(if((1:Int)==1&&(strSliceIndices lo hi 1 (S l).length).length==(S l).length)=true then S l else⟨((strSliceIndices lo hi 1 (S l).length).filterMap ((S l).cps[·]?)).toArray⟩)=S (fg l lo hi):=by
 rw[bG,oT];have e:((List.range (HT.sIx l.length l.length hi-HT.sIx l.length 0 lo)).map (HT.sIx l.length 0 lo+·)).filterMap ((S l).cps[·]?)=fg l lo hi:=jY l _ _;rw[e];by_cases c:((1:Int)==1&&((List.range (HT.sIx l.length l.length hi-HT.sIx l.length 0 lo)).map (HT.sIx l.length 0 lo+·)).length==l.length)=true
 ·rw[g_ c];simp at c;have h2:=zM l.length hi l.length (JB _);have:fg l lo hi=l:=by
   unfold fg;by_cases z:l.length=0
   ·have:l=[]:=KE.mp z;subst this;simp
   ·have h0:HT.sIx l.length 0 lo=0:=by lia
    rw[h0,List.drop_zero,KL zo]
  rw[this]
 ·rw[e_ c];rfl
section
def jZ:Fk X (fun x lo hi H Q=>∃l,x=.str (S l)/\l.length<=100000/\Q (.str (S (fg l lo hi))) H):=by
 intro K3 s σ H x v vl vu lo hi sl Q I rx hs pl pu h;obtain⟨l,rfl,hz,q⟩:=h;obtain⟨t,rfl⟩:=rx;obtain⟨os,Wv,Xw,WP⟩:=id hs;have sz:(100000:Nat)<=sizeLine:=by decide
 have lc:(S (fg l lo hi)).length<=sizeLine:=by
  rw[bG];unfold fg;rw[JU,Kp];lia
 refine⟨"str",_,F.slot_str_getitem.lookup,typeIs_str _ _ _,?_⟩;have P':∀(a b:Option (Int×Tok)),a.map (·.1)=lo->b.map (·.1)=hi->s.heap.IsSlice sl a b none->wpAny (model X.prog X.w) X.A (getItem (.str (S l) t) (.ref sl)) (EP X K3 σ Q) X.xe s:=fun a b ea eb hS=>by
  refine wpAny_getItem_str_slice hS rfl ?_;unfold sliceMade slicePicked;rw[ea,eb];refine post_val_or_str ?_;show(if((1:Int)==1&&(Builtin.Str.strSliceIndices lo hi 1 (S l).length).length==(S l).length)=true then S l else⟨((Builtin.Str.strSliceIndices lo hi 1 (S l).length).filterMap ((S l).cps[·]?)).toArray⟩).length<=sizeLine/\∀t' k,EP X K3 σ Q (.str (if((1:Int)==1&&(Builtin.Str.strSliceIndices lo hi 1 (S l).length).length==(S l).length)=true then S l else⟨((Builtin.Str.strSliceIndices lo hi 1 (S l).length).filterMap ((S l).cps[·]?)).toArray⟩) t') {s with toks:=k};rw[oU];exact⟨lc,fun t' k=>⟨.str (S (fg l lo hi)),H,I.tok _,⟨t',rfl⟩,q⟩⟩
 cases pl with
 |none=>
  cases pu with
  |none=>exact P' none none rfl rfl ⟨os,Wv,Xw,WP⟩
  |int j u=>exact P' none (some (j,u)) rfl rfl ⟨os,Wv,Xw,WP⟩
 |int i u0=>
  cases pu with
  |none=>exact P' (some (i,u0)) none rfl rfl ⟨os,Wv,Xw,WP⟩
  |int j u=>exact P' (some (i,u0)) (some (j,u)) rfl rfl ⟨os,Wv,Xw,WP⟩
def fW(c:Nat)(l:UE):(!(Builtin.Str.occurrences (S l) (S [c]) 0 (S l).length 1).isEmpty)=decide (c∈l):=by
 rw[Km,StrLaws.found_iff,P_];constructor
 ·rintro⟨i,hi,e⟩;rw[bG,bG]at hi;have Xa:i<l.length:=by simp at hi;lia
  unfold Builtin.Str.subAt at e;have e':l.toArray.extract i (i+1)=#[c]:=eq_of_beq e;have:(l.drop i).take 1=[c]:=by
   have:=i_ Array.toList e';simpa[List.extract_eq_drop_take]using this
  have hm:c∈(l.drop i).take 1:=by rw[this];simp
  exact List.mem_of_mem_drop (List.mem_of_mem_take hm)
 ·intro h;obtain⟨i,hi,e⟩:=Sf h;refine⟨i,by rw[bG,bG];simp;lia,?_⟩;unfold Builtin.Str.subAt;have:l.toArray.extract i (i+1)=#[c]:=by
   apply Array.toList_inj.mp;rw[Array.toList_extract];simp[List.extract_eq_drop_take,Ka hi,e]
  show(l.toArray.extract i (i+1) == #[c])=true;rw[this];exact beq_self_eq_true _
inductive Bt(tb:TE)(σ:St)(Q:VK)(x:V)(H1:Hp):Prop
 |mk(l:_):x=.str (S l)->l.length<=100000->(if l=[]then tb σ H1 Q else Q (.str (S l)) H1)->Bt tb σ Q x H1
def Hz(ta tb:TE):TE:=fun σ H Q=>ta σ H fun x H1=>Bt tb σ Q x H1
def CB{a b:Expr}{A':List Expr}{pos:Pos}{ta tb:TE}(ha:PE X a ta)(hb:PE X (.BoolOp .Or (b::A') pos) tb):PE X (.BoolOp .Or (a::b::A') pos) (Hz ta tb):=by
 refine⟨?_⟩;intro K3 s σ H Q I h;refine BoolOp_or (bN (ha K3 s σ H _ I h) fun v s1 hZZ=>?_);obtain⟨x,H1,I1,r1,q1⟩:=hZZ;obtain⟨l,rfl,hz,q1⟩:=q1;obtain⟨t,rfl⟩:=r1;refine PySem.P.truthy_str (by rw[bG];lia) ?_;rw[bG];by_cases e:l=[]
 ·subst e;rw[g_ rfl]at q1;exact hb K3 _ σ H1 Q (I1.tok _) q1
 ·rw[e_ e]at q1;have:((l.length:Int) != 0)=true:=by
   have:l.length≠0:=fun z=>e (KE.mp z);simp;exact e
  rw[this];exact⟨.str (S l),H1,I1.tok _,⟨t,rfl⟩,q1⟩
def gZ:∀{ys:UD}{us:List Uw},NV (ys.map V.str) us->StrsAre us ys
 |[],_,.nil=>.nil
 |n::r,_,.cons h t=>by
  obtain⟨tk,rfl⟩:=h;exact .cons n tk (gZ t)
def wE(Le:UE)(ts:List (UE)):Txt.join (S Le) (ts.map S)=S (TK.jn Le ts):=by
 have go:∀(r:List (UE))(G':UE),(r.map S).foldl (fun G' p=>G'++(S Le).cps++p.cps) G'.toArray=(G'++(r.map (Le++·)).flatten).toArray:=by
  intro r;induction r with
  |nil=>intro G';simp
  |cons t r ih=>
   intro G';rw[J9,List.foldl_cons];have:G'.toArray++(S Le).cps++(S t).cps=(G'++Le++t).toArray:=by simp[S]
   rw[this,ih];simp
 have fl:∀(t:UE)(r:List (UE)),TK.jn Le (t::r)=t++(r.map (Le++·)).flatten:=by
  intro t r;induction r generalizing t with
  |nil=>simp[TK.jn]
  |cons u r ih=>
   show t++(Le++TK.jn Le (u::r))=_;rw[ih u];simp
 cases ts with
 |nil=>rfl
 |cons t r=>
  show(⟨((t::r).map S |>.drop 1).foldl (fun G' p=>G'++(S Le).cps++p.cps) (((t::r).map S).headD Str.empty).cps⟩:Str)=_;rw[fl];have:=go r t;show(⟨(r.map S).foldl (fun G' p=>G'++(S Le).cps++p.cps) t.toArray⟩:Str)=_;rw[this];rfl
def zN:GW X "str.join" (fun x xs H Q=>∃Le a ts,x=.str (S Le)/\xs=[.ref a]/\NQ X.K H a (ts.map fun t=>V.str (S t))/\(ts.map List.length).sum+ts.length*Le.length<=100000/\Q (.str (S (TK.jn Le ts))) H):=by
 intro K3 s σ H x xs v us Q I rx rv h;obtain⟨Le,a,ts,rfl,rfl,hS,hz,q⟩:=h;obtain⟨t,rfl⟩:=rx;obtain⟨u,rfl,ru⟩:=rv.one;cases ru;obtain⟨f',r,pl,hz2⟩:=I.list hS;have e:(ts.map fun t=>V.str (S t))=(ts.map S).map V.str:=by rw[KR];rfl
 rw[e]at r;refine join_list pl.isList (ys:=ts.map S) (by simpa using gZ r) ?_ fun t' k=>?_
 ·have:((ts.map S).map (·.length)).sum=(ts.map List.length).sum:=by
   rw[KR]
   congr 1
  rw[this,JC,bG];lia
 ·rw[wE];exact⟨.str (S (TK.jn Le ts)),H,I.tok _,⟨t',rfl⟩,q⟩
end
section
def dn:cH X (.builtin "isinstance") (fun xs H Q=>∃x t b,xs=[x,.ty T]/\gA X.K H x t/\PySem.W.kitOne X.K t (.type T)=some b/\Q (.bl b) H):=by
 intro K3 s σ H xs us Q I r h;obtain⟨x,t,b,rfl,ty,e,q⟩:=h;cases r with
 |cons r0 rr=>
  cases rr with
  |cons r1 rr=>
   cases rr;cases r1;exact uu I r0 ty e fun tk=>⟨.bl b,H,I.tok _,rfl,q⟩
def wF:eM X (binaryOp .FloorDiv) (rI (fun _ j=>0<j/\j<18446744073709551616) fun i j=>.int (i / j)):=EK fun i j _ _ _ _ _ hc q=>by
 have h1:(0:Int)<j:=hc.1;have h2:j<18446744073709551616:=hc.2;refine floordiv_int zo (by rw[Sz i zo];exact q) (.inl (PyProof.noPylong_of_log2 ?_));have h3:j.natAbs≠0:=by lia
 have:j.natAbs.log2<64:=(Nat.log2_lt h3).mpr (by show j.natAbs<2^64;lia);lia
def GX(l:UE):It:=⟨fun i _=>i<l.length,fun i H y H'=>H'=H/\∃h:i<l.length,y=.str (S [l[i]]),fun i _=>l.length<=i⟩
variable{tg:Expr}{K:ZF}{w:UA}{P:Uz}
def qr(l:UE)(t:Tok)(it:Ux):kX P w K tg (GX l) [it] it (fun i h=>h.IsStrIter it "str_ascii_iterator" (S l) t i) where
 mem:=by simp
 obj:=fun i h st b hb=>by
  have e:b=it:=by simpa using hb
  subst e;obtain⟨o,e,c,d⟩:=st;exact⟨o,e,fun v z=>by rw[d]at z;cases z⟩
 keep:=fun i h h' st k=>let⟨o,ho,r⟩:=st;⟨o,k it (by simp) o ho,r⟩
 item:=by
  intro X hP hw hK hc i K3 s σ H E I hf st hg;subst hP hw hK;have Wd:i<l.length:=hg;obtain⟨f0,f1,f2,f3,f4,f5⟩:=hf it (by simp);refine wpAny_pyNext_ascii_item st (c:=l[i]) (by show l.toArray[i]?=_;simp[Wd]) fun h' Vz sb=>?_;have I1:NO X K3 σ H {s with heap:=h',toks:=s.toks+1}:=I.turned (fun b o hb e=>(sb.2 b hb).trans e) f0 f1 f3 f4 f5;obtain⟨o,e,c,d⟩:=id Vz;exact⟨_,rfl,oJ (s:={s with heap:=h',toks:=s.toks+1}) e c d zd ⟨.str (S [l[i]]),H,I1,⟨_,rfl⟩,⟨rfl,Wd,rfl⟩,Vz,fun b hb=>(hf b hb).1⟩⟩
 done:=by
  intro X hP hw hK hc i K3 s σ H E I hf st hg;subst hP hw hK;have Wd:l.length<=i:=hg;obtain⟨f0,f1,f2,f3,f4,f5⟩:=hf it (by simp);exact wpAny_pyNext_ascii_end (I.ok.hd hc) st (by show l.toArray[i]?=_;simp[Wd]) fun h' eb=>⟨rfl,I.turned (t':=s.toks) (fun b o hb e=>eb b o hb e) f0 f1 f3 f4 f5⟩
 self:=fun _ _ _ _ _ st h=>wpAny_pyIter_striter_ascii st h
def uC(l:UE)(t:Tok)(it:Ux):kX P w K tg (GX l) [it] it (fun i h=>h.IsStrIter it "str_iterator" (S l) t i) where
 mem:=by simp
 obj:=fun i h st b hb=>by
  have e:b=it:=by simpa using hb
  subst e;obtain⟨o,e,c,d⟩:=st;exact⟨o,e,fun v z=>by rw[d]at z;cases z⟩
 keep:=fun i h h' st k=>let⟨o,ho,r⟩:=st;⟨o,k it (by simp) o ho,r⟩
 item:=by
  intro X hP hw hK hc i K3 s σ H E I hf st hg;subst hP hw hK;have Wd:i<l.length:=hg;obtain⟨f0,f1,f2,f3,f4,f5⟩:=hf it (by simp);refine wpAny_pyNext_wide_item st (c:=l[i]) (by show l.toArray[i]?=_;simp[Wd]) fun h' Vz sb=>?_;have I1:NO X K3 σ H {s with heap:=h',toks:=s.toks+1}:=I.turned (fun b o hb e=>(sb.2 b hb).trans e) f0 f1 f3 f4 f5;obtain⟨o,e,c,d⟩:=id Vz;exact⟨_,rfl,oJ (s:={s with heap:=h',toks:=s.toks+1}) e c d zd ⟨.str (S [l[i]]),H,I1,⟨_,rfl⟩,⟨rfl,Wd,rfl⟩,Vz,fun b hb=>(hf b hb).1⟩⟩
 done:=by
  intro X hP hw hK hc i K3 s σ H E I hf st hg;subst hP hw hK;have Wd:l.length<=i:=hg;obtain⟨f0,f1,f2,f3,f4,f5⟩:=hf it (by simp);exact wpAny_pyNext_wide_end (I.ok.hd hc) st (by show l.toArray[i]?=_;simp[Wd]) fun h' eb=>⟨rfl,I.turned (t':=s.toks) (fun b o hb e=>eb b o hb e) f0 f1 f3 f4 f5⟩
 self:=fun _ _ _ _ _ st h=>wpAny_pyIter_striter_wide st h
inductive Bu(R:It->Hp->Prop)(x:V)(H1:Hp):Prop
 |mk(l:_):x=.str (S l)->R (GX l) H1->Bu R x H1
def HE(tl:TE):TI:=fun σ H R=>tl σ H fun x H1=>Bu R x H1
def qt{tg l:Expr}{tl:TE}(hl:PE X l tl):PI X tg l (HE tl):=by
 refine⟨?_⟩;intro K3 s σ H R I h;refine bN (hl K3 s σ H _ I h) fun v s1 hZZ=>?_;obtain⟨x,H1,I1,r1,q1⟩:=hZZ;obtain⟨l,e,q⟩:=q1;subst e;obtain⟨t,rfl⟩:=r1;have fp:∀b∈[s1.heap.objs.size],Of X K3 H1 b:=fun b hb=>by
  have e:b=s1.heap.objs.size:=by simpa using hb
  subst e;exact I1.fpOk (JB _) (I1.hok.fresh (JB _))
 cases ha:(S l).cps.all (· < 128)
 ·exact wpAny_pyIter_wide ha ⟨s1.heap.objs.size,[s1.heap.objs.size],_,_,H1,rfl,I1.kept (t':=s1.toks) fun b o e=>Jz _ e,uC l t _,⟨_,JG _ rfl,rfl,rfl⟩,fp,q⟩
 ·exact wpAny_pyIter_ascii ha ⟨s1.heap.objs.size,[s1.heap.objs.size],_,_,H1,rfl,I1.kept (t':=s1.toks) fun b o e=>Jz _ e,qr l t _,⟨_,JG _ rfl,rfl,rfl⟩,fp,q⟩
def qu(Pv:Nat->UG->Hp->Prop)(h0:Pv 0 [] H)
  (hl:∀i ys H,i<=l.length->Pv i ys H->ys.length<=sizeLine)
  (hs:∀i ys H(h:i<l.length),Pv i ys H->g (.str (S [l[i]])) (eG ix σ) H fun σ2 H2=>Ob (eG ix σ) σ2/\tf σ2 H2 fun b H3=>if b=true then te σ2 H3 fun y H4=>Nx Pv l.length i (ys++[y]) H4 else Nx Pv l.length i ys H3)
  (hd:∀ys H,Pv l.length ys H->∀D,H D=none->Q (.ref D) (az H D (.lst ys))) :
  uz (GX l) g tf te ix σ H Q:=by
 refine⟨fun i m ys H=>m=l.length-i/\i<=l.length/\Pv i ys H,⟨l.length,by simp,JN _,h0⟩,?_⟩;rintro i m ys H ⟨rfl,hi,p⟩;have hz:=hl i ys H hi p;by_cases Ld:i<l.length
 ·refine .inr ⟨Ld,hz,fun x H' y=>?_⟩;obtain⟨e,h,y⟩:=y;subst e y;exact hs i ys _ Ld p
 ·have e:i=l.length:=by lia
  subst e;exact .inl ⟨JB _,hz,hd ys H p⟩
def cY(hc:X.calm=true):cH X (.builtin "all") (fun xs H Q=>∃(p:Ux)(bs:List Bool),xs=[.ref p]/\NQ X.K H p (bs.map V.bl)/\Q (.bl (bs.all id)) H):=by
 intro K3 s σ H xs us Q I r h;obtain⟨p,bs,rfl,hS,q⟩:=h;obtain⟨u,rfl,rx⟩:=dB r;cases rx;obtain⟨f',rv,pl,hz⟩:=I.list hS;have K4:=rv.length;rw[JC]at K4;have La:p≠s.heap.objs.size:=by
  obtain⟨o,ho,_⟩:=pl.isList;exact JO (JD ho)
 refine call_all_walk (R4 pl.isList ?_);refine⟨s.heap.objs.size,_,_,_,_,_,fun i=>bs.getD i true,rfl,Walks.list (A:=X.A.in1) (I.ok.hd hc) s.heap.objs.size p La f'.toArray,⟨⟨_,JG _ rfl,rfl,rfl⟩,pl.isList.at fun o e=>Jz _ e⟩,?_,?_⟩
 ·intro i v s' Q' E' hv hq;have W_:f'[i]?=some v:=by simpa using hv
  have Ld:i<f'.length:=(JA.mp W_).1;have hb:i<bs.length:=by lia
  obtain⟨u,hu,ru⟩:=rv.get (i:=i) (x:=.bl bs[i]) (by simp[hb]);rw[W_]at hu;cases hu;cases ru;refine p_ ?_;have e:bs.getD i true=bs[i]:=by simp[List.getD,hb]
  dsimp only at hq;rw[e]at hq;exact hq
 ·intro h' tk hk;have e:(List.range f'.toArray.size).all (fun i=>bs.getD i true)=bs.all id:=by
   rw[JJ,<-K4,Km,Ki,Ki];constructor
   ·intro z x hx;obtain⟨i,hi,e⟩:=Sf hx;have:=z i (Kx.mpr hi);rw[show bs.getD i true=bs[i]by simp[List.getD,hi],e]at this;exact this
   ·intro z i hi;have Xa:=Kx.mp hi;rw[show bs.getD i true=bs[i]by simp[List.getD,Xa]];exact z _ (K1 Xa)
  rw[e];exact⟨.bl _,H,I.kept fun b o e=>hk b o (fun z=>absurd (JD e) (by rw[JL.mp z];exact Kk _)) (Jz _ e),rfl,q⟩
end
section
variable{κ:Type} [DecidableEq κ]
def eU(kvs:List (κ×V))(k:κ):Option V:=(kvs.find? fun kv=>decide (kv.1=k)).map (·.2)
def er(kvs:List (κ×V))(k:κ)(v:V):List (κ×V):=
 if(kvs.any fun kv=>decide (kv.1=k))=true then kvs.map (fun kv=>if kv.1=k then(kv.1,v)else kv)else kvs++[(k,v)]
def oV{k:κ}:eU ([]:List (κ×V)) k=none:=rfl
variable{p:κ×V}
def fB{r:List (κ×V)}{k:κ}(e:p.1=k):eU (p::r) k=some p.2:=by simp[eU,Ku,e]
def eI{r:List (κ×V)}{k:κ}(e:¬p.1=k):eU (p::r) k=eU r k:=by simp[eU,Ku,e]
def j4(k:κ):∀kvs:List (κ×V),(kvs.any fun kv=>decide (kv.1=k))=(eU kvs k).isSome
 |[]=>rfl
 |p::r=>by
  rw[K2];by_cases e:p.1=k
  ·simp only[fB e,b_ e,Bool.true_or,Option.isSome_some]
  ·rw[eI e,d_ e,Bool.false_or];exact j4 k r
def dj(kvs:List (κ×V))(k:κ)(v:V):(er kvs k v).length<=kvs.length+1:=by
 unfold er;split
 ·rw[JC];lia
 ·rw[JH,JX,KO];lia
variable{kvs:List (κ×V)}
def oW{k:κ}(v:V)(h:eU kvs k=none):er kvs k v=kvs++[(k,v)]:=by
 unfold er;rw[j4,h];exact e_ zd
variable{u:Option Uw}{o:Option V}
def Oj.isSome_eq(r:Oj o u):o.isSome=u.isSome:=by
 cases o with
 |none=>cases u with
  |none=>rfl
  |some _=>exact(show False from r).elim
 |some _=>cases u with
  |none=>exact(show False from r).elim
  |some _=>rfl
def Oj.getD{d:V}{d':Uw}(r:Oj o u)(rd:NY d d'):NY (o.getD d) (u.getD d'):=by
 cases o with
 |none=>cases u with
  |none=>exact rd
  |some _=>exact(show False from r).elim
 |some _=>cases u with
  |none=>exact(show False from r).elim
  |some _=>exact r
def KV.val{vs:List (κ×Uw)}(r:KV kvs vs)(k:κ):Oj (eU kvs k) (valueAt vs k):=by
 unfold KV at r;induction r with
 |nil=>exact True.intro
 |@cons p q ps qs h t ih=>
  obtain⟨h1,h2⟩:=h;by_cases e:p.1=k
  ·have e':q.1=k:=h1.symm.trans e;have b:valueAt (q::qs) k=some q.2:=by simp[valueAt,Ku,e']
   rw[fB e,b];exact h2
  ·have e':¬q.1=k:=fun z=>e (h1.trans z);have b:valueAt (q::qs) k=valueAt qs k:=by simp[valueAt,Ku,e']
   rw[eI e,b];exact ih
def KV.any{vs:List (κ×Uw)}(r:KV kvs vs)(k:κ):(kvs.any fun kv=>decide (kv.1=k))=vs.any fun kv=>decide (kv.1=k):=by
 unfold KV at r;induction r with
 |nil=>rfl
 |cons h t ih=>rw[K2,K2,ih,h.1]
variable{y:V}
def KV.repl{vs:List (κ×Uw)}(r:KV kvs vs)(k:κ){u:Uw}(ry:NY y u):
  KV (kvs.map fun kv=>if kv.1=k then(kv.1,y)else kv) (vs.map fun kv=>if kv.1=k then(kv.1,u)else kv):=by
 unfold KV at r⊢;induction r with
 |nil=>exact .nil
 |@cons p q ps qs h t ih=>
  rw[J9,J9];refine .cons ?_ ih;obtain⟨h1,h2⟩:=h;by_cases e:p.1=k
  ·rw[g_ e,g_ (h1.symm.trans e)];exact⟨h1,ry⟩
  ·rw[e_ e,e_ (fun z=>e (h1.trans z))];exact⟨h1,h2⟩
def KV.put{vs:List (κ×Uw)}(r:KV kvs vs)(k:κ){u:Uw}(ry:NY y u):KV (er kvs k y) (stored vs k u):=by
 unfold er stored;rw[r.any k];by_cases e:(vs.any fun kv=>decide (kv.1=k))=true
 ·rw[g_ e,g_ e];exact r.repl k ry
 ·rw[e_ e,e_ e];exact Paired.snoc r ⟨rfl,ry⟩
def KV.length{vs:List (κ×Uw)}(r:KV kvs vs):kvs.length=vs.length:=Sa r
end
section
variable{u:Uw}{w:UA}{P:Uz}
def ji{k:dm}(r:NY (kV k) u):(bU P w).is k u=true:=by
 cases k with
 |inl i=>obtain⟨t,e⟩:=(show ∃t,u=Value.int i t from r);subst e;exact oF P w i t
 |inr x=>obtain⟨t,e⟩:=(show ∃t,u=Value.str x t from r);subst e;exact oG P w x t
def lH:∀{ks:List dm}{us:List Uw},NV (ks.map kV) us->ItemsAre (bU P w) ks us
 |[],_,r=>by rw[List.map_nil]at r;cases r;exact .nil
 |k::ks,_,r=>by
  rw[J9]at r;cases r with
  |cons h t=>exact .cons (ji h) (lH t)
abbrev KT(H:Hp):List (List dm×V)->List (List dm×Ux×Uw)->Prop:=Paired fun p q=>p.1=q.1/\H q.2.1=some (.tup (p.1.map kV))/\NY p.2 q.2.2
variable{xs:List (List dm×Ux×Uw)}{kvs:List (List dm×V)}{H:Hp}
def KT.val(r:KT H kvs xs)(k:List dm):Oj (eU kvs k) ((atKey xs k).map (·.2)):=by
 induction r with
 |nil=>exact True.intro
 |@cons p q ps qs h t ih=>
  obtain⟨h1,_,h2⟩:=h;by_cases e:p.1=k
  ·have e':q.1=k:=h1.symm.trans e;have b:atKey (q::qs) k=some q.2:=by simp[atKey,Ku,e']
   rw[fB e,b];exact h2
  ·have e':¬q.1=k:=fun z=>e (h1.trans z);have b:atKey (q::qs) k=atKey qs k:=by simp[atKey,Ku,e']
   rw[eI e,b];exact ih
variable{y:V}
def KT.repl(r:KT H kvs xs)(k:List dm)(ry:NY y u):
  KT H (kvs.map fun kv=>if kv.1=k then(kv.1,y)else kv) (xs.map (putAt k u)):=by
 induction r with
 |nil=>exact .nil
 |@cons p q ps qs h t ih=>
  rw[J9,J9];refine .cons ?_ ih;obtain⟨h1,h2,h3⟩:=h;unfold putAt;by_cases e:p.1=k
  ·rw[g_ e,g_ (h1.symm.trans e)];exact⟨h1,h2,ry⟩
  ·rw[e_ e,e_ (fun z=>e (h1.trans z))];exact⟨h1,h2,h3⟩
variable{b:Ux}
def KT.put(r:KT H kvs xs)(k:List dm)(hb:H b=some (.tup (k.map kV)))(ry:NY y u):
  KT H (er kvs k y) (storedH xs k b u):=by
 have e:(kvs.any fun kv=>decide (kv.1=k))=(atKey xs k).isSome:=by
  rw[j4,(r.val k).isSome_eq,KY]
 unfold er storedH;rw[e];by_cases q:(atKey xs k).isSome=true
 ·rw[g_ q,g_ q];exact r.repl k ry
 ·rw[e_ q,e_ q];exact Paired.snoc r ⟨rfl,hb,ry⟩
def KT.keeps{H H':Hp}(r:KT H kvs xs)(ht:∀b ys,H b=some (.tup ys)->H' b=some (.tup ys)):KT H' kvs xs:=
 Paired.mapP r fun _ _ z=>⟨z.1,ht _ _ z.2.1,z.2.2⟩
section
variable{P:Uz}{w:UA}{H:Hp}{h:Heap}{a:Ux}
def Bv{u:HO}(ok:Oq P w H h)(e:Rd H a u):N2 P w H h a u:=e.ok ok
def jk{kvs:List (dm×V)}(ok:Oq P w H h)(e:Rd H a (.dK kvs)):kvs.length<=sizeLine/\(a==sysModules)=false/\∃vs,KV kvs vs/\h.DictOf (bU P w) a vs:=
 show N2 P w H h a (.dK kvs)from Bv ok e
def wG{kvs:List (dm×V)}(ok:Oq P w H h)(e:H a=some (.dK kvs)):kvs.length<=sizeLine/\(a==sysModules)=false/\∃vs,KV kvs vs/\h.DictOf (bU P w) a vs:=jk ok (.inl e)
def fC{ks:List dm}(ok:Oq P w H h)(e:H a=some (.tup (ks.map kV))):(tupleKind (bU P w)).is h ks a:=by
 obtain⟨_,f',r,o,h1,h2,n,h3⟩:=(show N2 P w H h a (.tup (ks.map kV))from ok a _ e);exact⟨o,f'.toArray,n,h1,(KF h2).1,h3,by simpa using lH r⟩
def jl(ok:Oq P w H h)(e:Rd H a (.dT kvs)):kvs.length<=sizeLine/\(a==sysModules)=false /\
  ∃xs,KT H kvs xs/\h.DictOfH (tupleKind (bU P w)) a xs:=by
 obtain⟨z,y,xs,r,o,es,ep,h1,h2,h3,h4,h5⟩:=(show N2 P w H h a (.dT kvs)from Bv ok e);refine⟨z,y,xs,r,o,es,ep,h1,h2,h3,h4,fun x hx=>?_,h5⟩;have all:∀{l:List (List dm×V)}{m:List (List dm×Ux×Uw)},KT H l m->∀x∈m,(tupleKind (bU P w)).is h x.1 x.2.1:=by
  intro l m q;induction q with
  |nil=>intro x hx;exact nomatch hx
  |@cons p q ps qs hq t ih=>
   intro x hx;rcases JT.mp hx with e|hx
   ·subst e;exact fC ok (by rw[<-hq.1];exact hq.2.1)
   ·exact ih x hx
 exact all r x hx
def Bw(ok:Oq P w H h)(e:H a=some (.dT kvs)):kvs.length<=sizeLine/\(a==sysModules)=false /\
  ∃xs,KT H kvs xs/\h.DictOfH (tupleKind (bU P w)) a xs:=jl ok (.inl e)
end
def N9(H:Hp)(a:Ux)(y:V)(r:Option V):Prop:=
 (∃kvs k,Rd H a (.dK kvs)/\y=kV k/\r=eU kvs k)\/∃kvs k b,Rd H a (.dT kvs)/\y=.ref b/\H b=some (.tup (k.map kV))/\r=eU kvs k
def Oh(H:Hp)(a:Ux)(y v:V)(H':Hp):Prop:=
 (∃kvs k,H a=some (.dK kvs)/\y=kV k/\kvs.length<sizeLine/\H'=az H a (.dK (er kvs k v))) ∨
 ∃kvs k b,H a=some (.dT kvs)/\y=.ref b/\H b=some (.tup (k.map kV))/\kvs.length<sizeLine/\H'=az H a (.dT (er kvs k v))
variable{a:Ux}
def N9.k{kvs:List (dm×V)}{k:dm}(e:H a=some (.dK kvs)):N9 H a (kV k) (eU kvs k):=.inl ⟨kvs,k,.inl e,rfl,rfl⟩
def N9.t{k:List dm}(e:H a=some (.dT kvs))(eb:H b=some (.tup (k.map kV))):N9 H a (.ref b) (eU kvs k):=.inr ⟨kvs,k,b,.inl e,rfl,eb,rfl⟩
variable{v:V}
def Oh.k{kvs:List (dm×V)}{k:dm}(e:H a=some (.dK kvs))(hl:kvs.length<sizeLine):Oh H a (kV k) v (az H a (.dK (er kvs k v))):=.inl ⟨kvs,k,e,rfl,hl,rfl⟩
def Oh.t{k:List dm}{v:V}(e:H a=some (.dT kvs))(eb:H b=some (.tup (k.map kV)))(hl:kvs.length<sizeLine):
  Oh H a (.ref b) v (az H a (.dT (er kvs k v))):=.inr ⟨kvs,k,b,e,rfl,eb,hl,rfl⟩
section
variable{X:Cx}{K3:List (Ux×Obj)}{σ:St}{H:Hp}{s:Uy}{a:Ux}{y v:V}{u r:Uw}{o:Option V}{A:UB}{E:Uw->Uy->Prop}
def NO.big(I:NO X K3 σ H s):sysModules<s.heap.objs.size:=by
 have h:mainGlobals<s.heap.objs.size:=(I.mod.glob.keeps I.bk).lt;exact Nat.lt_trans zd h
variable{Q:Uw->Uy->Prop}
def uD(hu:A.units+1<cLine)(I:NO X K3 σ H s)(g:N9 H a y (some v))(ry:NY y u)(h:∀w' s',NO X K3 σ H s'->NY v w'->Q w' s'):
  wpAny (model X.prog X.w) A (getItem (.ref a) u) Q E s:=by
 rcases g with⟨kvs,k,e,ey,l⟩|⟨kvs,k,b,e,ey,eb,l⟩
 ·subst ey;obtain⟨z,hd,vs,rel,dd⟩:=jk I.hok e;obtain⟨w',hw,Vp⟩:=Oj.some_of (v:=v) (o:=valueAt vs k) (by rw[l];exact rel.val k);exact wpAny_getItem_of (ji ry) dd.mapOf hw (h w' _ (I.tok _) Vp)
 ·subst ey;cases(show u=Value.ref b from ry);obtain⟨z,hd,xs,rel,dd⟩:=jl I.hok e;obtain⟨w',hw,Vp⟩:=Oj.some_of (v:=v) (o:=(atKey xs k).map (·.2)) (by rw[l];exact rel.val k);obtain⟨p,hp,UT⟩:=Option.map_eq_some_iff.mp hw;refine wpAny_getItem_heap (B_ hu) (fC I.hok eb) dd hp ?_;rw[UT];exact h w' _ (I.tok _) Vp
def HF(hu:A.units+1<cLine)(I:NO X K3 σ H s)(g:N9 H a y o)(ry:NY y u)(h:∀s',NO X K3 σ H s'->Q (.bool o.isSome) s'):
  wpAny (model X.prog X.w) A (compareOp .In u (.ref a)) Q E s:=by
 rcases g with⟨kvs,k,e,ey,l⟩|⟨kvs,k,b,e,ey,eb,l⟩
 ·subst ey;obtain⟨z,hd,vs,rel,dd⟩:=jk I.hok e;refine wpAny_in_of (ji ry) hd dd.mapOf ?_;rw[<-(rel.val k).isSome_eq,<-l];exact h _ (I.tok _)
 ·subst ey;cases(show u=Value.ref b from ry);obtain⟨z,hd,xs,rel,dd⟩:=jl I.hok e;refine wpAny_in_heap (B_ hu) (fC I.hok eb) hd dd ?_;have q:=(rel.val k).isSome_eq;rw[KY]at q;rw[<-q,<-l];exact h _ (I.tok _)
def zO(hu:A.units+1<cLine)(I:NO X K3 σ H s)(g:N9 H a y o)(ry:NY y u)(h:∀s',NO X K3 σ H s'->Q (.bool (!o.isSome)) s'):
  wpAny (model X.prog X.w) A (compareOp .NotIn u (.ref a)) Q E s:=by
 rcases g with⟨kvs,k,e,ey,l⟩|⟨kvs,k,b,e,ey,eb,l⟩
 ·subst ey;obtain⟨z,hd,vs,rel,dd⟩:=jk I.hok e;refine wpAny_notIn_of (ji ry) hd dd.mapOf ?_;rw[<-(rel.val k).isSome_eq,<-l];exact h _ (I.tok _)
 ·subst ey;cases(show u=Value.ref b from ry);obtain⟨z,hd,xs,rel,dd⟩:=jl I.hok e;refine wpAny_notIn_heap (B_ hu) (fC I.hok eb) hd dd ?_;have q:=(rel.val k).isSome_eq;rw[KY]at q;rw[<-q,<-l];exact h _ (I.tok _)
def jx{h':Heap}{t':Nat}{ob:HO}(I:NO X K3 σ H s)(mu:EV (H a))(hs:Heap.SameBut a s.heap h')(he:∃q,h'.get? a=some q)(new:N2 X.prog X.w (az H a ob) h' a ob):
  NO X K3 σ (az H a ob) {s with heap:=h',toks:=t'}:=
 I.write (x:=a) (e:=a) mu (.inl rfl) (fun b q hb z=>(hs.2 b hb).trans z) he new
def qv{H':Hp}{h':Heap}{kvs:List (dm×V)}{vs:List (dm×Uw)}(z:kvs.length<=sizeLine)(hd:(a==sysModules)=false)(rel:KV kvs vs)(dd:h'.DictOf (bU P w) a vs):
  N2 P w H' h' a (.dK kvs):=⟨z,hd,vs,rel,dd⟩
def uE{H':Hp}{Q:Unit->Uy->Prop}(hu:A.units+1<cLine)(I:NO X K3 σ H s)(g:Oh H a y v H')(ry:NY y u)(rv:NY v r)(h:∀s',NO X K3 σ H' s'->Q () s'):
  wpAny (model X.prog X.w) A (setItem (.ref a) u r) Q E s:=by
 rcases g with⟨kvs,k,e,ey,l,eH⟩|⟨kvs,k,b,e,ey,eb,l,eH⟩
 ·subst ey eH;obtain⟨z,hd,vs,rel,dd⟩:=wG I.hok e;have hz:vs.length<=sizeLine:=by rw[<-rel.length];exact z
  have hl:(er kvs k v).length<=sizeLine:=by have:=dj kvs k v;lia
  refine wpAny_setItem_pairs (hsz:=hz) (ji ry) dd fun h' WV hs=>h _ ?_;have he:∃q,h'.get? a=some q:=let⟨q,_,_,hq,_⟩:=WV;⟨q,hq⟩;exact jx I (by rw[e];exact True.intro) hs he (qv hl hd (rel.put k rv) WV)
 ·subst ey eH;cases(show u=Value.ref b from ry);obtain⟨z,hd,xs,rel,dd⟩:=Bw I.hok e;have hz:xs.length<=sizeLine:=by rw[<-Sa rel];exact z
  have hl:(er kvs k v).length<=sizeLine:=by have:=dj kvs k v;lia
  refine wpAny_setItem_heap (hsz:=hz) (B_ hu) (fC I.hok eb) dd fun h' WV hs=>h _ ?_;obtain⟨q,es,ep,hq,h2,h3,h4,_,h5⟩:=WV;refine jx I (by rw[e];exact True.intro) hs ⟨q,hq⟩ ⟨hl,hd,_,(rel.put k eb rv).keeps fun c ys ec=>?_,q,es,ep,hq,h2,h3,h4,h5⟩;rw[ao (Ba ec e (fun z=>nomatch z))];exact ec
end
def Ft(i:Expr):Prop:=∀ov iv,subscripted i false ov iv=operate [ov,iv] (getItem ov iv)
def zP{prog:Uz}{w:UA}{A:UB}{E:Uw->Uy->Prop}{s:Uy}{env:Env}{value UI:Expr}{pos:Pos}{T id:String}{Q:Uw->Uy->Prop}
  (hl:typeLookup (.type T) "__getitem__"=pure (some (.builtin id))) (hs:Ft UI)
  (h:wpAny (model prog w) A (eval value env) (fun o s₁=>wpAny (model prog w) A (eval UI env) (fun i s₂=>s₂.TypeIs o T/\wpAny (model prog w) A (getItem o i) Q E s₂) E s₁) E s) :
  wpAny (model prog w) A (eval (.Subscript value UI pos) env) Q E s:=by
 refine Subscript_ (h_ h (fun o s₁ h₁=>h_ h₁ (fun i s₂ h₂=>?_) fun _ _ x=>x) fun _ _ x=>x);obtain⟨hT,h₂⟩:=h₂;unfold subscriptTail;refine a_ ?_;rw[getitemInPython_of_ne hT.not_modules];refine a_ (wpAny_specialOf hT hl ?_);have P':wpAny (model prog w) A (subscripted UI false o i) (fun r s₃=>wpAny (model prog w) A (letTemporaryGo value o r>>=fun _=>pure r) Q E s₃) E s₂:=by
  rw[hs o i];exact wpAny_operating (h_ h₂ (fun r s₃ h₃=>a_ (wpAny_letTemporaryGo (c_ h₃))) fun _ _ x=>x)
 first
  |exact c_ (a_ P')
  |exact a_ (c_ (a_ P'))
  |exact a_ P'
variable{s:Uy}{σ:St}{K3:List (Ux×Obj)}{X:Cx}
def oX{o:Option V}(I:NO X K3 σ H s)(g:N9 H a y o):s.TypeIs (.ref a) "dict":=by
 rcases g with⟨kvs,k,e,_,_⟩|⟨kvs,k,b,e,_,_,_⟩
 ·obtain⟨_,_,vs,_,dd⟩:=jk I.hok e;exact dd.typeIs
 ·obtain⟨_,_,xs,_,dd⟩:=jl I.hok e;exact dd.typeIs
inductive wH(Q:VK)(x:V)(y:V)(H2:Hp):Prop
 |mk(a v:_):x=.ref a->N9 H2 a y (some v)->Q v H2->wH Q x y H2
def Fu(td ty:TE):TE:=fun σ H Q=>td σ H fun x H1=>ty σ H1 fun y H2=>wH Q x y H2
inductive Bx(Q:VK)(y:V)(x:V)(H2:Hp):Prop
 |mk(a o:_):x=.ref a->N9 H2 a y o->Q (.bl o.isSome) H2->Bx Q y x H2
def HG(ty td:TE):TE:=fun σ H Q=>ty σ H fun y H1=>td σ H1 fun x H2=>Bx Q y x H2
inductive oY(Q:VK)(y:V)(x:V)(H2:Hp):Prop
 |mk(a o:_):x=.ref a->N9 H2 a y o->Q (.bl (!o.isSome)) H2->oY Q y x H2
def zQ(ty td:TE):TE:=fun σ H Q=>ty σ H fun y H1=>td σ H1 fun x H2=>oY Q y x H2
inductive wI(D:fh)(σ:St)(v:V)(x:V)(y:V)(H3:Hp):Prop
 |mk(a H4:_):x=.ref a->Oh H3 a y v H4->D.nx σ H4->wI D σ v x y H3
def Fv(td ty tv:TE):TS:=fun D σ H=>tv σ H fun v H1=>td σ H1 fun x H2=>ty σ H2 fun y H3=>wI D σ v x y H3
section
variable{X:Cx}{o i e value:Expr}{pos U1 YK:Pos}{td ty tv:TE}
def g6(hu:X.A.units+1<cLine)(ho:PE X o td)(hi:PE X i ty)(hs:Ft i:=by intro _ _;rfl):PE X (.Subscript o i pos) (Fu td ty):=by
 refine⟨?_⟩;intro K3 s σ H Q I h;refine zP PySem.F.slot_dict_getitem.lookup hs (bN (ho K3 s σ H _ I h) fun u s1⟨x,H1,I1,rx,q1⟩=>bN (hi K3 s1 σ H1 _ I1 q1) fun iv s2 hZZ=>?_);obtain⟨y,H2,I2,ry,a,v,ex,g,q2⟩:=hZZ;subst ex;obtain rfl:u=Value.ref a:=rx;exact⟨oX I2 g,uD hu I2 g ry fun w' s3 I3 Vp=>⟨v,H2,I3,Vp,q2⟩⟩
def qw(hu:X.A.units+1<cLine)(hi:PE X i ty)(ho:PE X o td):PC X .In i o (HG ty td):=by
 intro K3 s σ H Q I h;refine bN (hi K3 s σ H _ I h) fun iv s1⟨y,H1,I1,ry,q1⟩=>bN (ho K3 s1 σ H1 _ I1 q1) fun u s2 hZZ=>?_;obtain⟨x,H2,I2,rx,a,ov,ex,g,q2⟩:=hZZ;subst ex;obtain rfl:u=Value.ref a:=rx;exact HF hu I2 g ry fun s3 I3=>⟨.bl ov.isSome,H2,I3,rfl,q2⟩
def uF(hu:X.A.units+1<cLine)(hi:PE X i ty)(ho:PE X o td):PC X .NotIn i o (zQ ty td):=by
 intro K3 s σ H Q I h;refine bN (hi K3 s σ H _ I h) fun iv s1⟨y,H1,I1,ry,q1⟩=>bN (ho K3 s1 σ H1 _ I1 q1) fun u s2 hZZ=>?_;obtain⟨x,H2,I2,rx,a,ov,ex,g,q2⟩:=hZZ;subst ex;obtain rfl:u=Value.ref a:=rx;exact zO hu I2 g ry fun s3 I3=>⟨.bl (!ov.isSome),H2,I3,rfl,q2⟩
def sM(hu:X.A.units+1<cLine)(ho:PE X o td)(hi:PE X i ty)(hv:PE X value tv)(hs:swapsWith value (some (.Subscript o i U1)) pos.line X.env=pure false):
  PS X (.Assign [.Subscript o i U1] value pos) (Fv td ty tv):=by
 refine⟨?_⟩;intro K3 s σ H D I h;refine wpAny_Assign_Subscript (bN (hv K3 s σ H _ I h) fun r s1⟨v,H1,I1,rv,q1⟩=>bN (ho K3 s1 σ H1 _ I1 q1) fun u s2⟨x,H2,I2,rx,q2⟩=>bN (hi K3 s2 σ H2 _ I2 q2) fun iv s3 hZZ=>?_) hs;obtain⟨y,H3,I3,ry,a,H4,ex,g,q3⟩:=hZZ;subst ex;obtain rfl:u=Value.ref a:=rx;exact uE hu I3 g ry rv fun s4 I4=>⟨σ,H4,I4,q3⟩
end
def oZ(h:Heap)(hb:sysModules<h.objs.size):N2 P w H (h.push {cls:=.type "dict",data:=.dict #[]}) h.objs.size (.dK []):=
 ⟨JN _,beq_eq_false_iff_ne.mpr (R0 (JO hb)),[],.nil,Heap.DictOf.new h⟩
def o0(h:Heap)(hb:sysModules<h.objs.size):N2 P w H (h.push {cls:=.type "dict",data:=.dict #[]}) h.objs.size (.dT []):=
 ⟨JN _,beq_eq_false_iff_ne.mpr (R0 (JO hb)),[],.nil,_,#[],0,JG _ rfl,⟨rfl,rfl,rfl⟩,rfl,rfl,List.nodup_nil⟩
def CC:TE:=fun _ H Q=>∀p,H p=none->Q (.ref p) (az H p (.dK []))
section
variable{X:Cx}{pos:Pos}
def j5:PE X (.Dict [] [] pos) CC:=⟨fun K3 s σ H Q I h=>
 wpAny_Dict_empty ⟨.ref s.heap.objs.size,_,I.laid (a:=s.heap.objs.size) (o:=.dK []) (t':=s.toks) (fun _ _ q=>Jz _ q) (JB _) (oZ s.heap I.big),rfl,h _ (I.hok.fresh (JB _))⟩⟩
end
structure M1(X:Cx)(o:Expr)(m:Str)(K':Pos)(e:Expr)(B':Pos):Prop where
 base:attributeBase o m X.env (eval o X.env)=eval o X.env
 few:((backTo B' (starEach [e] X.env)).all (fun x=>!x.1)&&(backToKw B' (keywordEach [] X.env)).all (fun x=>x.1.isSome)
  && decide (([e]:List Expr).length+([]:List Keyword).length+(if([]:List Keyword).isEmpty then 0 else 1)<30))=true
 line:(K'.endLine==B'.line)=true
 trees:backTo B' (starEach [e] X.env)=[(false,eval e X.env)]
structure M2(X:Cx)(o:Expr)(m:Str)(K':Pos)(e f:Expr)(B':Pos):Prop where
 base:attributeBase o m X.env (eval o X.env)=eval o X.env
 few:((backTo B' (starEach [e,f] X.env)).all (fun x=>!x.1)&&(backToKw B' (keywordEach [] X.env)).all (fun x=>x.1.isSome)
  && decide (([e,f]:List Expr).length+([]:List Keyword).length+(if([]:List Keyword).isEmpty then 0 else 1)<30))=true
 line:(K'.endLine==B'.line)=true
 trees:backTo B' (starEach [e,f] X.env)=[(false,eval e X.env),(false,eval f X.env)]
def HH(H:Hp)(a:Ux):Prop:=(∃kvs,Rd H a (.dK kvs))\/∃kvs,Rd H a (.dT kvs)
def wJ(I:NO X K3 σ H s)(d:HH H a):
  s.TypeIs (.ref a) "dict"/\(∀b,Value.ref a=.ref b->∃ob,s.heap.get? b=some ob/\ob.dict=none)/\(a==sysModules)=false:=by
 rcases d with⟨kvs,e⟩|⟨kvs,e⟩
 ·obtain⟨_,hd,vs,_,dd⟩:=jk I.hok e;refine⟨dd.typeIs,fun b q=>?_,hd⟩;cases q;obtain⟨ob,_,_,h1,h2,_⟩:=dd;exact⟨ob,h1,h2.2.1⟩
 ·obtain⟨_,hd,xs,_,dd⟩:=jl I.hok e;refine⟨dd.typeIs,fun b q=>?_,hd⟩;cases q;obtain⟨ob,_,_,h1,h2,_⟩:=dd;exact⟨ob,h1,h2.2.1⟩
section
variable{X:Cx}{K3:List (Ux×Obj)}{σ:St}{H:Hp}{s:Uy}{a:Ux}{y d:V}{u r:Uw}{o:Option V}{A:UB}{E:Uw->Uy->Prop}
variable{Q:Uw->Uy->Prop}
def CD(hu:A.units+1<cLine)(I:NO X K3 σ H s)(g:N9 H a y o)(ry:NY y u)(h:∀w' s',NO X K3 σ H s'->NY (o.getD .non) w'->Q w' s'):
  wpAny (model X.prog X.w) A (call (.builtin "dict.get") [.ref a,u]) Q E s:=by
 rcases g with⟨kvs,k,e,ey,l⟩|⟨kvs,k,b,e,ey,eb,l⟩
 ·subst ey;obtain⟨z,hd,vs,rel,dd⟩:=jk I.hok e;refine SK w_ dd.typeIs H_ (PySem.F.args_dict_get_2 _ _) (meets_dict_get (bU X.prog X.w) a (ji ry) hd) ⟨_,dd.mapOf,h _ _ (I.tok _) ?_⟩;rw[l];exact(rel.val k).getD rfl
 ·subst ey;cases(show u=Value.ref b from ry);obtain⟨z,hd,xs,rel,dd⟩:=jl I.hok e;refine SK w_ dd.typeIs H_ (PySem.F.args_dict_get_2 _ _) (meetsH_dict_get (tupleKind (bU X.prog X.w)) a b hd) ⟨B_ hu,k,xs,fC I.hok eb,dd,h _ _ (I.tok _) ?_⟩;rw[l];exact(rel.val k).getD rfl
def CF(hu:A.units+1<cLine)(I:NO X K3 σ H s)(g:N9 H a y o)(ry:NY y u)(rd:NY d r)(h:∀w' s',NO X K3 σ H s'->NY (o.getD d) w'->Q w' s'):
  wpAny (model X.prog X.w) A (call (.builtin "dict.get") [.ref a,u,r]) Q E s:=by
 rcases g with⟨kvs,k,e,ey,l⟩|⟨kvs,k,b,e,ey,eb,l⟩
 ·subst ey;obtain⟨z,hd,vs,rel,dd⟩:=jk I.hok e;refine SK w_ dd.typeIs H_ (PySem.F.args_dict_get_3 _ _ _) (meets_dict_get_default (bU X.prog X.w) a (ji ry) hd r) ⟨_,dd.mapOf,h _ _ (I.tok _) ?_⟩;rw[l];exact(rel.val k).getD rd
 ·subst ey;cases(show u=Value.ref b from ry);obtain⟨z,hd,xs,rel,dd⟩:=jl I.hok e;refine SK w_ dd.typeIs H_ (PySem.F.args_dict_get_3 _ _ _) (meetsH_dict_get_default (tupleKind (bU X.prog X.w)) a b hd r) ⟨B_ hu,k,xs,fC I.hok eb,dd,h _ _ (I.tok _) ?_⟩;rw[l];exact(rel.val k).getD rd
end
inductive sN(ty:TE)(σ:St)(Q:VK)(x:V)(H1:Hp):Prop
 |mk(a:_):x=.ref a->HH H1 a->(ty σ H1 fun y H2=>∃o,N9 H2 a y o/\Q (o.getD .non) H2)->sN ty σ Q x H1
def CI(td ty:TE):TE:=fun σ H Q=>td σ H fun x H1=>sN ty σ Q x H1
inductive sO(ty:TE)(tx:TE)(σ:St)(Q:VK)(x:V)(H1:Hp):Prop
 |mk(a:_):x=.ref a->HH H1 a->(ty σ H1 fun y H2=>tx σ H2 fun z H3=>∃o,N9 H3 a y o/\Q (o.getD z) H3)->sO ty tx σ Q x H1
def CJ(td ty tx:TE):TE:=fun σ H Q=>td σ H fun x H1=>sO ty tx σ Q x H1
section
variable{X:Cx}{o e f:Expr}{K' B':Pos}{td ty tx:TE}
def o6(hu:X.A.units+1<cLine)(ho:PE X o td)(he:PE X e ty)(m:M1 X o "get" K' e B'):PE X (.Call (.Attribute o "get" K') [e] [] B') (CI td ty):=by
 refine⟨?_⟩;intro K3 s σ H Q I h;refine wpAny_Call_method m.base m.few m.line PySem.F.plainAttrs_dict w_ PySem.F.type_dict_get (bN (ho K3 s σ H _ I h) fun u s1 hZZ=>?_);obtain⟨x,H1,I1,rx,a,ex,d,q1⟩:=hZZ;subst ex;obtain rfl:u=Value.ref a:=rx;obtain⟨t1,t2,_⟩:=wJ I1 d;refine⟨t1,t2,?_⟩;rw[m.trees];refine KJ rfl (KQ (KW (bN (he K3 s1 σ H1 _ I1 q1) fun iv s2⟨y,H2,I2,ry,ov,g,q2⟩=>SF ?_)));exact CD hu I2 g ry fun w' s3 I3 Vp=>⟨_,H2,I3,Vp,q2⟩
def wK(hu:X.A.units+1<cLine)(ho:PE X o td)(he:PE X e ty)(hf:PE X f tx)(m:M2 X o "get" K' e f B'):PE X (.Call (.Attribute o "get" K') [e,f] [] B') (CJ td ty tx):=by
 refine⟨?_⟩;intro K3 s σ H Q I h;refine wpAny_Call_method m.base m.few m.line PySem.F.plainAttrs_dict w_ PySem.F.type_dict_get (bN (ho K3 s σ H _ I h) fun u s1 hZZ=>?_);obtain⟨x,H1,I1,rx,a,ex,d,q1⟩:=hZZ;subst ex;obtain rfl:u=Value.ref a:=rx;obtain⟨t1,t2,_⟩:=wJ I1 d;refine⟨t1,t2,?_⟩;rw[m.trees];refine KJ rfl (KQ (KW (bN (he K3 s1 σ H1 _ I1 q1) fun iv s2⟨y,H2,I2,ry,q2⟩=>
  KW (bN (hf K3 s2 σ H2 _ I2 q2) fun fv s3⟨z,H3,I3,rz,ov,g,q3⟩=>SF ?_))))
 exact CF hu I3 g ry rz fun w' s4 I4 Vp=>⟨_,H3,I4,Vp,q3⟩
end
end
def HI(P:St->Hp->Prop)(t u:TS):TS:=fun D σ H=>(∀σ' H',P σ' H'->u D σ' H')/\t {D with nx:=P} σ H
def dX{X:Cx}{st:Stmt}{A':List Stmt}{t u:TS}(P:St->Hp->Prop)(h1:PS X st t)(h2:Pg X A' u):Pg X (st::A') (HI P t u):=by
 refine⟨?_⟩;intro K3 s σ H D I h;refine wpAny_execs_cons (bN (h1 K3 s σ H {D with nx:=P} I h.2) fun f s1 q=>?_);cases f with
 |next=>
  obtain⟨σ',H',I',q⟩:=q;exact h2 K3 s1 σ' H' D I' (h.1 _ _ q)
 |ret v=>exact q
 |brk=>exact q
 |cont=>exact q
def Fw(Pt Pf:St->Hp->Prop)(t:TT):TT:=fun σ H Q=>(∀H',Pt σ H'->Q true H')/\(∀H',Pf σ H'->Q false H')/\t σ H fun b H'=>if b=true then Pt σ H' else Pf σ H'
def j6(Pt Pf:St->Hp->Prop)(h:PT X e t):PT X e (Fw Pt Pf t):=by
 refine⟨?_⟩;intro K3 s σ H Q I hq;refine bN (h K3 s σ H _ I hq.2.2) fun b s1⟨H1,I1,q⟩=>⟨H1,I1,?_⟩;cases b with
 |true=>exact hq.1 H1 (by simpa using q)
 |false=>exact hq.2.1 H1 (by simpa using q)
def iH{K:ZF}{a:Ux}{xs:UG}{g:TG}{tf:TT}{te:TE}{ix:List (Option Nat)}{σ:St}{H:Hp}{Q:VK}(Pv:Nat->UG->Hp->Prop)(h0:Pv 0 [] H)
  (hl:∀i ys H,i<=xs.length->Pv i ys H->NL K H a xs/\ys.length<=sizeLine)
  (hs:∀i x ys H,xs[i]?=some x->Pv i ys H->g x (eG ix σ) H fun σ2 H2=>Ob (eG ix σ) σ2/\tf σ2 H2 fun b H3=>if b=true then te σ2 H3 fun y H4=>Nx Pv xs.length i (ys++[y]) H4 else Nx Pv xs.length i ys H3)
  (hd:∀ys H,Pv xs.length ys H->∀D,H D=none->Q (.ref D) (az H D (.lst ys))) :
  uz (Bf K a) g tf te ix σ H Q:=by
 refine⟨fun i m ys H=>m=xs.length-i/\i<=xs.length/\Pv i ys H,⟨xs.length,by simp,JN _,h0⟩,?_⟩;rintro i m ys H ⟨rfl,hi,p⟩;obtain⟨q,hz⟩:=hl i ys H hi p;by_cases Ld:i<xs.length
 ·refine .inr ⟨⟨xs,xs[i],q,by simp[Ld]⟩,hz,fun x H' y=>?_⟩;obtain⟨e,y⟩:=y;subst e;exact hs i x ys _ (y xs q) p
 ·have e:i=xs.length:=by lia
  subst e;exact .inl ⟨⟨xs,q,JB _⟩,hz,hd ys H p⟩
def N6(H H':Hp):Prop:=∀a xs,H a=some (.tup xs)->H' a=some (.tup xs)
def N6.trans(a:N6 H H1)(b:N6 H1 H2):N6 H H2:=fun c x e=>b c x (a c x e)
def ay(s:NJ H H'):N6 H H':=fun a xs e=>s _ _ e
def CM(h:H p=some (.lst xs)):N6 H (az H p (.lst ys)):=fun a zs e=>by
 have:a≠p:=by
  rintro rfl;rw[h]at e;cases e
 rw[ao this];exact e
def GY(x:Str):Bool:=(PyData.str x).canLay0
section
inductive sP(X:Cx)(m:Str)(t:TA)(σ:St)(Q:VK)(x:V)(H1:Hp):Prop
 |mk(a dx C f:Ux)(fs:List (Str×V))(fd:UC)(k:Nat)(ps:UD)(sp:Sp):x=.ref a->H1 a=some (.ins C dx fs)->fs.lookup m=none->Px X.K C->wg X.K C m f->NN X.prog X.w X.K X.mg X.base br k f fd ps sp->NZ k X.A->N7 X.K fd ps []->(t σ H1 fun vs H2=>sp (.ref a::vs) H2 Q E0)->sP X m t σ Q x H1
def CP(X:Cx)(m:Str)(ta:TE)(t:TA):TE:=fun σ H Q=>ta σ H fun x H1=>sP X m t σ Q x H1
def aR(he:PE X o ta)(ha:PA X (e::es) t)
  (Wb:starEach (e::es) X.env=(false,eval e X.env)::starEach es X.env:=by rfl) (Vm:(backTo pos (starEach es X.env)).any (·.1)=false:=by rfl)
  (ht:eval (.Call (.Attribute o m K') (e::es) [] pos) X.env=(do
   let ov <-eval o X.env
   standAt K'.atName
   let(f,first) <-holding [ov] (getMethod ov m pl)
   callWith pos f first (backTo pos (starEach (e::es) X.env)) (backToKw pos (keywordEach [] X.env))):=by rfl) :
  PE X (.Call (.Attribute o m K') (e::es) [] pos) (CP X m ta t):=by
 refine⟨?_⟩;intro K3 s σ H Q I h;refine R7 (pl:=pl) (bN (he K3 s σ H _ I h) fun u s1 hZZ=>?_) ht;obtain⟨x,H1,I1,rx,a,dx,C,f,fs,fd,k,ps,sp,ex,ea,l,c,hm,F,hr,hb,q⟩:=hZZ;subst ex;obtain rfl:u=Value.ref a:=rx;refine gz I1 ea c hm l ?_;refine KM (first:=[.ref a]) (h₀:=X.base) I.ok.mod.kin hm.kp (bN (ha pos K3 s1 σ H1 _ I1 q) fun us s2⟨vs,H2,I2,r,q2⟩=>⟨I2.kIn,?_⟩) Wb Vm;exact iF (us:=.ref a::us) (vs:=.ref a::vs) (dvs:=[]) (ds:=[]) F hr hb .nil dR I2 (.cons rfl r) (by rw[Ko];exact q2)
inductive o7(X:Cx)(m:Str)(Q:VK)(x:V)(H1:Hp):Prop
 |mk(a dx C f:Ux)(fs:List (Str×V))(fd:UC)(k:Nat)(ps:UD)(sp:Sp):x=.ref a->H1 a=some (.ins C dx fs)->fs.lookup m=none->Px X.K C->wg X.K C m f->NN X.prog X.w X.K X.mg X.base br k f fd ps sp->NZ k X.A->N7 X.K fd ps []->sp [.ref a] H1 Q E0->o7 X m Q x H1
def zR(X:Cx)(m:Str)(ta:TE):TE:=fun σ H Q=>ta σ H fun x H1=>o7 X m Q x H1
def aW(he:PE X o ta)
  (ht:eval (.Call (.Attribute o m K') [] [] pos) X.env=(do
   let ov <-eval o X.env
   standAt K'.atName
   let(f,first) <-holding [ov] (getMethod ov m pl)
   callWith pos f first (backTo pos (starEach [] X.env)) (backToKw pos (keywordEach [] X.env))):=by rfl) :
  PE X (.Call (.Attribute o m K') [] [] pos) (zR X m ta):=by
 refine⟨?_⟩;intro K3 s σ H Q I h;refine R7 (pl:=pl) (bN (he K3 s σ H _ I h) fun u s1 hZZ=>?_) ht;obtain⟨x,H1,I1,rx,a,dx,C,f,fs,fd,k,ps,sp,ex,ea,l,c,hm,F,hr,hb,q⟩:=hZZ;subst ex;obtain rfl:u=Value.ref a:=rx;refine gz I1 ea c hm l ?_;exact PySem.W.callWith_K0 (first:=[.ref a]) I1.kIn hm.kp (iF (us:=[.ref a]) (vs:=[.ref a]) (dvs:=[]) (ds:=[]) F hr hb .nil dR I1 (.cons rfl .nil) q)
end
def CQ(K:ZF)(l:Ux):It:=
 ⟨fun i H=>∃xs x,NQ K H l xs/\xs[i]?=some x,
  fun i H v H'=>∃T x,v=.ref T/\H T=none/\H'=az H T (.tup [.int i,x])/\∀xs,NQ K H l xs->xs[i]?=some x,
  fun i H=>∃xs,NQ K H l xs/\xs.length<=i⟩
def uG{P:Uz}{w:UA}{K:ZF}{U':List Expr}{kt:Nat}{tp:Pos}{e it l:Ux}(La:e≠it):
  kX P w K (.Tuple U' kt tp) (CQ K l) [e,it] e (fun i h=>(∃UH,IsEnum h e it i UH)/\h.IsListIter it l i) where
 mem:=by simp
 obj:=fun i h st b hb=>by
  obtain⟨⟨UH,he⟩,⟨o1,h1,_,d1⟩⟩:=st;simp at hb;rcases hb with rfl|rfl
  ·exact⟨_,he,fun v q=>by cases q⟩
  ·exact⟨_,h1,fun v q=>by rw[d1]at q;cases q⟩
 keep:=fun i h h' st k=>by
  obtain⟨⟨UH,he⟩,h1⟩:=st;exact⟨⟨UH,k e (by simp) _ he⟩,h1.at fun o q=>k it (by simp) o q⟩
 item:=by
  intro X hP hw hK hc i K3 s σ H E I hf st hg;subst hP hw hK;obtain⟨xs,x,hx,ex⟩:=hg;obtain⟨⟨UH,he⟩,h1⟩:=st;obtain⟨UP,VA,p1,z1⟩:=I.list hx;obtain⟨u1,XZ,X'⟩:=VA.get ex;refine wpAny_pyNext_enum_item he h1 p1.isList (x:=u1) (by simpa using XZ) La fun h' a1 a2 a3 a4 a5=>⟨_,rfl,?_⟩;refine wpAny_letOwnedTupleGo_enum a1 fun Wf b1 b2=>?_;have hT:H s.heap.objs.size=none:=I.hok.fresh (JB _);have VV:∀b o,s.heap.get? b=some o->b≠s.heap.objs.size:=fun b o q=>JO (JD q);refine⟨.ref s.heap.objs.size,az H s.heap.objs.size (.tup [.int i,x]),?_,rfl,⟨s.heap.objs.size,x,rfl,hT,rfl,fun xs' h=>by rw[I.list_inj h hx];exact ex⟩,?_,fun b hb=>?_⟩
  ·show NO X K3 σ (az H s.heap.objs.size (.tup [.int i,x])) {s with heap:=Wf,toks:=s.toks+1};refine NO.turnedS (s:=s) (h':=Wf) (t':=s.toks+1) (ch:=[e,it]) I (fun b hb=>hf b hb) (fun b o hc q=>?_) (fun b o q=>by rw[ao (aI q hT)];exact q) (fun b hb n=>by rw[ao (JO hb)];exact n) fun b o n q=>?_
   ·simp at hc;exact b2.extBut b o hc.1 (a5 b o hc.1 hc.2 q)
   ·by_cases eb:b=s.heap.objs.size
    ·subst eb;rw[ac]at q;cases q;refine⟨N0,[.int i s.toks,u1],.cons ⟨_,rfl⟩ (.cons X' .nil),_,b2.extBut _ _ ?_ a3,rfl,_,rfl⟩;exact fun z=>VV e _ he z.symm
    ·rw[ao eb,n]at q;cases q
  ·refine⟨⟨_,b1⟩,a2.at fun o q=>b2.extBut _ o La.symm q⟩
  ·have n:=(hf b hb).1;have:b≠s.heap.objs.size:=by
    simp at hb;obtain⟨_,q1,_⟩:=id h1;rcases hb with rfl|rfl
    ·exact VV _ _ he
    ·exact VV _ _ q1
   rw[ao this];exact n
 done:=by
  intro X hP hw hK hc i K3 s σ H E I hf st hg;subst hP hw hK;obtain⟨xs,hx,hl⟩:=hg;obtain⟨⟨UH,he⟩,h1⟩:=st;obtain⟨UP,VA,p1,z1⟩:=I.list hx;have e1:=VA.length;refine wpAny_pyNext_enum_end (I.ok.hd hc) he h1 p1.isList (by simp;lia) fun h' k=>⟨rfl,?_⟩;obtain⟨f0,f1,f2,f3,f4,f5⟩:=hf it (by simp);exact I.turned (t':=s.toks) (fun b o hb q=>k b o hb q) f0 f1 f3 f4 f5
 self:=fun _ _ _ _ _ st h=>R5 st.1.choose_spec h
section
inductive wL(K:ZF)(R:It->Hp->Prop)(vs:UG)(H1:Hp):Prop
 |mk(l:_):vs=[.ref l]->(∃xs,NQ K H1 l xs)->R (CQ K l) H1->wL K R vs H1
def Fx(K:ZF)(ta:TA):TI:=fun σ H R=>ta σ H fun vs H1=>wL K R vs H1
def lI:bootBuiltins "enumerate"=some (.type "enumerate"):=by decide +kernel
def mv{U':List Expr}{kt:Nat}{tp:Pos}{a:Expr}{ta:TA}{p pos:Pos}(hg:Gl X "enumerate")(hm:X.mg "enumerate"=none)(ha:PA X [a] ta)(hs:starEach [a] X.env=[(false,eval a X.env)]:=by rfl):
  PI X (.Tuple U' kt tp) (.Call (.Name "enumerate" p) [a] [] pos) (Fx X.K ta):=by
 refine⟨?_⟩;intro K3 s σ H R I h;refine Call_ (fj I hg hm lI (Ke (bN (ha pos K3 s σ H _ I h) fun us s1 hZZ=>?_) hs rfl));obtain⟨vs,H1,I1,r1,q1⟩:=hZZ;obtain⟨l,e,⟨xs,hx⟩,q⟩:=q1;subst e;cases r1 with
 |cons r rr=>
  cases rr;cases r;obtain⟨UP,VA,p1,z1⟩:=I1.list hx;refine call_enumerate_list p1.isList fun h' a1 a2 a3 a4=>?_;refine R5 a1 ?_;refine⟨_,[s1.heap.objs.size+1,s1.heap.objs.size],_,_,H1,rfl,I1.kept (t':=s1.toks) a4,uG (KC (Kv _)),⟨⟨_,a1⟩,a2⟩,fun b hb=>?_,q⟩;have Vr:s1.heap.objs.size<=b:=by
   simp only[JT,Kj,O_]at hb;rcases hb with e|e<;>rw[e]
   ·exact E_ _ _
   ·exact JB _
  exact I1.fpOk Vr (I1.hok.fresh Vr)
end
def wM{K:ZF}{l:Ux}{xs:UG}{g:TG}{tb:TS}{D:fh}{σ:St}{H:Hp}(Pv:Nat->St->Hp->Prop)(h0:Pv 0 σ H)(hl:∀i σ H,i<=xs.length->Pv i σ H->NQ K H l xs)
  (hs:∀i x σ H T,xs[i]?=some x->H T=none->Pv i σ H->g (.ref T) σ (az H T (.tup [.int i,x])) fun σ2 H2=>tb {D with nx:=Pv (i+1),ct:=Pv (i+1),bk:=D.nx} σ2 H2) (hd:∀σ H,Pv xs.length σ H->D.nx σ H) :
  ∃W:Nat->Nat->St->Hp->Prop,(∃m,W 0 m σ H)/\∀i m σ H,W i m σ H->
   ((CQ K l).stop i H/\D.nx σ H)\/((CQ K l).go i H/\∃N:St->Hp->Prop,(∀σ' H',N σ' H'->∃m',m'<m/\W (i+1) m' σ' H')/\∀x H',(CQ K l).yld i H x H'->g x σ H' fun σ2 H2=>tb {D with nx:=N,ct:=N,bk:=D.nx} σ2 H2):=by
 refine⟨fun i m σ H=>m=xs.length-i/\i<=xs.length/\Pv i σ H,⟨xs.length,by simp,JN _,h0⟩,?_⟩;rintro i m σ H ⟨rfl,hi,p⟩;have q:=hl i σ H hi p;by_cases Ld:i<xs.length
 ·refine .inr ⟨⟨xs,xs[i],q,by simp[Ld]⟩,Pv (i+1),fun σ' H' p'=>⟨xs.length-(i+1),zo,rfl,Ld,p'⟩,fun v H' y=>?_⟩;obtain⟨T,x,e1,hT,e2,hy⟩:=y;subst e1 e2;exact hs i x σ H T (hy xs q) hT p
 ·have e:i=xs.length:=by lia
  subst e;exact .inl ⟨⟨xs,q,JB _⟩,hd σ H p⟩
section
def qy:cH X (.type "dict") (fun xs H Q=>∃(d:Ux)(kvs:List (dm×V)),xs=[.ref d]/\H d=some (.dK kvs)/\∀a,H a=none->Q (.ref a) (az H a (.dK kvs))):=by
 intro K3 s σ H xs us Q I r h;obtain⟨d,kvs,rfl,hd,q⟩:=h;obtain⟨u,rfl,rx⟩:=dB r;cases rx;obtain⟨hz,hs,vs,rel,dd⟩:=wG I.hok hd;refine PySem.kt_call_dict hs dd (by rw[<-rel.length];exact hz) fun h' Yx Yk=>?_;have hk:∀b o,s.heap.get? b=some o->h'.get? b=some o:=fun b o e=>Yk.extBut b o (JO (JD e)) (Jz _ e);have hbig:=I.big;have e:s={s with toks:=s.toks}:=by cases s;rfl
 refine⟨.ref s.heap.objs.size,_,I.laid (t':=s.toks) (a:=s.heap.objs.size) (o:=.dK kvs) hk (JB _) ?_,rfl,q _ (I.hok.fresh (JB _))⟩;exact qv hz (by
  have:¬s.heap.objs.size=sysModules:=KC hbig;simpa using this) rel Yx
end
end L2
namespace PySem
open Sem (wp)
def tupIt(l:Ux):Obj:={cls:=.type "tuple_iterator",data:=.fields #[.ref l,.int 0 0]}
def enumOver(it:Ux):Obj:={cls:=.type "enumerate",data:=.fields #[.none,.bool false,.ref it,rawInt 0,.none,.none]}
def Qv(l:Ux)(Lf:Array Uw)(n:Nat)(od:Option Ux)(os:Array (Option Uw)):Meets (Builtin.«enumerate.__new__» ⟨[.type "enumerate",.ref l],[]⟩) (fun _ R s=>
  s.heap.get? l=some {cls:=.type "tuple",dict:=od,data:=.seq Lf n,slots:=os}/\R (.ok (.ret (.ref (s.heap.push (tupIt l)).objs.size))) {s with heap:=(s.heap.push (tupIt l)).push (enumOver s.heap.objs.size)}):=
 .of_wp fun prog w A R s W5=>by
  rcases s with⟨hp,gs,dr,tk,ZO⟩;have there:=W5.1;have Wk:=W5.2;have under:=sub_enumerate;have kR:hp.IsTuple l Lf:=⟨_,there,rfl,n,rfl⟩
  wp_walk using I_ there
  refine wpAny_stack_any fun _=>c_ ?_;split
  ·rename_i c _ _ _ _ _;rcases hb:(c==Value.type "enumerate")with _|_<;>(wp_walk using I_ there,J_ kR;exact⟨_,rfl,Wk⟩)
  ·(wp_walk using I_ there,J_ kR;exact⟨_,rfl,Wk⟩)
section
def enum_of_tuple(kR:s.heap.IsTuple l Lf)
  (h:Q (.ref (s.heap.objs.size+1)) {s with heap:=(s.heap.push (tupIt l)).push (enumOver s.heap.objs.size)}):wpAny (model prog w) A (call (.type "enumerate") [.ref l]) Q E s:=by
 obtain⟨o,there,Yf,n,Ye⟩:=kR;cases o with
 |mk oc od odt U7=>
  dsimp only at Yf Ye;subst Yf Ye;have sz:(s.heap.push (tupIt l)).objs.size=s.heap.objs.size+1:=Kl ..;have lies:((s.heap.push (tupIt l)).push (enumOver s.heap.objs.size)).get? (s.heap.objs.size+1)=some (enumOver s.heap.objs.size):=sz▸JG (s.heap.push (tupIt l)) rfl;refine callType_new F.called_enumerate zd (F.typeCall_enumerate_1 _) (F.newCall_enumerate_1 _) (fun x=>F.args_object_init_2 x _) F.entry_enumerate_new (Qv l Lf n od U7) ⟨there,?_⟩;show _/\_;rw[sz];exact⟨⟨_,lies,rfl⟩,h⟩
end
section
def Oc(US:s.heap.IsTupleIter it t i)(ht:s.heap.IsTuple t Lf)(hx:Lf[i]?=some x)
  (hQ:∀h',h'.IsTupleIter it t (i+1)->Heap.SameBut it s.heap h'->Q x {s with heap:=h'}):wpAny (model prog w) A (Builtin.SmallTypes.nextOf (.ref it)) Q E s:=by
 obtain⟨o,ho,hc,hd⟩:=id US;obtain⟨ol,hol,_,nl,WQ⟩:=ht;unfold Builtin.SmallTypes.nextOf;refine a_ (q_ (name:=Str.ofString "__next__") US.typeIs G_
  (t_ G_ US.typeIs F.entry_tuple_iterator_next ?_ (F.args_tuple_iterator_next_1 _)))
 show wpAny _ _ (field (.ref it) 0>>=_) _ _ s;refine a_ (r_ ho hd (x:=.ref t) rfl ?_);show wpAny _ _ (if(Value.ref t==Value.none)=true then _ else _) _ _ s;rw[e_ (show¬((Value.ref t==Value.none)=true)from JK)];show wpAny _ _ (field (.ref it) 1>>=_) _ _ s;refine a_ (r_ ho hd (x:=.int i 0) rfl ?_);show wpAny _ _ (seqItems? (.ref t)>>=_) _ _ s;refine a_ (A_ hol WQ ?_);simp only[Kq,hx];refine a_ (y_ ho hd (by simp) (c_ ⟨x,rfl,c_ (hQ _ ?_ (m_ ..))⟩));exact⟨_,n_ _ ho (Obj.isFreed_of_fields (RY hd _)),(Obj.cls_mapFields ..).trans hc,by
  rw[RY hd];simp[rawInt]⟩
def nextOf_tuple_end(hh:A.handled=none)(US:s.heap.IsTupleIter it t i)(ht:s.heap.IsTuple t Lf)(hx:Lf[i]?=none)
  (hE:∀h' e,Heap.ExtBut it s.heap h'->(∃o,h'.get? e=some o/\o.cls=.type "StopIteration")->E (.ref e) {s with heap:=h'}):wpAny (model prog w) A (Builtin.SmallTypes.nextOf (.ref it)) Q E s:=by
 obtain⟨o,ho,hc,hd⟩:=id US;obtain⟨ol,hol,_,nl,WQ⟩:=ht;unfold Builtin.SmallTypes.nextOf;refine a_ (q_ (name:=Str.ofString "__next__") US.typeIs G_
  (t_ G_ US.typeIs F.entry_tuple_iterator_next ?_ (F.args_tuple_iterator_next_1 _)))
 show wpAny _ _ (field (.ref it) 0>>=_) _ _ s;refine a_ (r_ ho hd (x:=.ref t) rfl ?_);show wpAny _ _ (if(Value.ref t==Value.none)=true then _ else _) _ _ s;rw[e_ (show¬((Value.ref t==Value.none)=true)from JK)];show wpAny _ _ (field (.ref it) 1>>=_) _ _ s;refine a_ (r_ ho hd (x:=.int i 0) rfl ?_);show wpAny _ _ (seqItems? (.ref t)>>=_) _ _ s;refine a_ (A_ hol WQ ?_);simp only[Kq,hx];refine a_ (R1 (a_ (y_ ho hd (by simp) ?_)));show wpAny _ _ (newExc (.type "StopIteration") []>>=_) _ _ _;refine a_ ?_;simp only[newExc,newTuple];refine a_ (l_ ?_ (by size_fits));refine a_ (m:=firstArgMember _ _) (wpAny_of_eq (a:=Value.none) (by first|rfl|(simp only[firstArgMember];rfl)) ?_);refine l_ ?_ (by size_fits);simp only[raiseNew];refine a_ (wpAny_handled ?_);first|rw[show A.in1.handled=none from hh]|rw[hh]
 refine a_ (c_ (wpAny_throw ?_));exact hE _ _ (((m_ ..).extBut.push _).push _) ⟨_,JG _ rfl,rfl⟩
end
def drawsTuple(hh:A.handled=none)(it l:Ux)(La:l≠it)(Lf:Array Uw):
  Draws prog w A it [it,l] Lf.size (fun i v=>Lf[i]?=some v) (fun i h=>h.IsTupleIter it l i/\h.IsTuple l Lf) where
 live:=fun _ _ st=>let⟨o,ho,_⟩:=st.1;⟨o,ho⟩
 frame:=fun _ _ _ st hk=>⟨let⟨o,ho,r⟩:=st.1;⟨o,hk it (by simp) o ho,r⟩,let⟨o,ho,r⟩:=st.2;⟨o,hk l (by simp) o ho,r⟩⟩
 item:=fun i s Q E hi st hQ=>by
  refine Oc st.1 st.2 (x:=Lf[i]) (by simp[hi]) fun h' V9 WM=>?_;exact hQ _ h' s.toks (by simp[hi]) ⟨V9,st.2.extBut WM.extBut La⟩ WM
 done:=fun s Q E st hE=>nextOf_tuple_end hh st.1 st.2 (by simp) hE
end PySem
namespace L2
open PySem PySem.Spec PyProof.Rows
variable{i:Nat}{h h':Heap}
def Fy{it l:Ux}(a:h.IsTupleIter it l i)(k:∀o,h.get? it=some o->h'.get? it=some o):h'.IsTupleIter it l i:=let⟨o,b,c⟩:=a;⟨o,k o b,c⟩
variable{Lf:Array Uw}
def By{it l:Ux}(t:h.IsTuple l Lf)(a:h.IsTupleIter it l i):l≠it:=by
 rintro rfl;obtain⟨o,x,c,_⟩:=t;obtain⟨o',x',c',_⟩:=a;rw[x]at x';cases x';rw[c]at c';injection c' with z;exact absurd z zd
def uH{prog:Uz}{w:UA}{A:UB}{E:Uw->Uy->Prop}{s:Uy}{e it l:Ux}{UH:Uw}{Q:Option Uw->Uy->Prop}(hh:A.handled=none)(he:IsEnum s.heap e it i UH)(h1:s.heap.IsTupleIter it l i)(kR:s.heap.IsTuple l Lf)(hi:Lf.size<=i)
  (hQ:∀h',Heap.ExtBut it s.heap h'->Q none {s with heap:=h'}):wpAny (model prog w) A (pyNext (.ref e)) Q E s:=by
 have hT:s.TypeIs (.ref e) "enumerate":=⟨_,he,rfl⟩;unfold pyNext;refine a_ (R_ (q_ (name:=Str.ofString "__next__") hT Sy (t_ Sy hT PySem.F.entry_enumerate_next ?_ (PySem.F.args_enumerate_next_1 _))));show wpAny _ _ (field (.ref e) 2>>=_) _ _ _;refine a_ (r_ he rfl (x:=.ref it) rfl ?_);refine a_ (PySem.nextOf_tuple_end hh h1 kR (Array.getElem?_eq_none hi) fun h' x V5 Vl=>?_);obtain⟨o,ho,hc⟩:=Vl;refine a_ (wpAny_isInstance (T:="StopIteration") (b:=true) ⟨o,ho,hc⟩ isSubtype_stop ?_);exact c_ (hQ _ V5)
def wN(K:ZF)(l:Ux):It:=
 ⟨fun i H=>∃xs x,NL K H l xs/\xs[i]?=some x,
  fun i H v H'=>∃T x,v=.ref T/\H T=none/\H'=az H T (.tup [.int i,x])/\∀xs,NL K H l xs->xs[i]?=some x,
  fun i H=>∃xs,NL K H l xs/\xs.length<=i⟩
def qz{P:Uz}{w:UA}{K:ZF}{U':List Expr}{kt:Nat}{tp:Pos}{e it l:Ux}(La:e≠it):
  kX P w K (.Tuple U' kt tp) (wN K l) [e,it] e (fun i h=>(∃UH,IsEnum h e it i UH)/\h.IsTupleIter it l i) where
 mem:=by simp
 obj:=fun i h st b hb=>by
  obtain⟨⟨UH,he⟩,⟨o1,h1,_,d1⟩⟩:=st;simp at hb;rcases hb with rfl|rfl
  ·exact⟨_,he,fun v q=>by cases q⟩
  ·exact⟨_,h1,fun v q=>by rw[d1]at q;cases q⟩
 keep:=fun i h h' st k=>by
  obtain⟨⟨UH,he⟩,h1⟩:=st;exact⟨⟨UH,k e (by simp) _ he⟩,Fy h1 fun o q=>k it (by simp) o q⟩
 item:=by
  intro X hP hw hK hc i K3 s σ H E I hf st hg;subst hP hw hK;obtain⟨xs,x,hx,ex⟩:=hg;obtain⟨⟨UH,he⟩,h1⟩:=st;obtain⟨UP,VA,p1,z1⟩:=I.tuple hx;obtain⟨u1,XZ,X'⟩:=VA.get ex;have kR:s.heap.IsTuple l UP.toArray:=let⟨o,a,b,n,c⟩:=p1;⟨o,a,b,n,c⟩;have nl:l≠it:=By kR h1;have ne2:e∉[it,l]:=by
   intro m;simp only[JT,Kj,O_]at m;rcases m with m|m
   ·exact La m
   ·subst m;obtain⟨o,a,b,_⟩:=kR;rw[show s.heap.get? e=_ from he]at a;cases a;injection b with z;exact absurd z zd
  have Ld:i<UP.toArray.size:=by
   have:=(JA.mp XZ).1;simpa using this
  refine wpAny_pyNext_enum_itemD (PySem.drawsTuple (A:=X.A.in1) (show X.A.in1.handled=none from I.ok.hd hc) it l nl UP.toArray) he ⟨h1,kR⟩ Ld La ne2 fun v h' tk px a1 a2' a3 a4 a5=>⟨_,rfl,?_⟩;have evu:v=u1:=by
   have e2:UP.toArray[i]?=some u1:=by simpa using XZ
   rw[e2]at px;exact(JS px).symm
  subst evu;have a2:=a2'.1;refine wpAny_letOwnedTupleGo_enum a1 fun Wf b1 b2=>?_;have hT:H s.heap.objs.size=none:=I.hok.fresh (JB _);have VV:∀b o,s.heap.get? b=some o->b≠s.heap.objs.size:=fun b o q=>JO (JD q);refine⟨.ref s.heap.objs.size,az H s.heap.objs.size (.tup [.int i,x]),?_,rfl,⟨s.heap.objs.size,x,rfl,hT,rfl,fun xs' h=>by rw[I.tuple_inj h hx];exact ex⟩,?_,fun b hb=>?_⟩
  ·show NO X K3 σ (az H s.heap.objs.size (.tup [.int i,x])) {s with heap:=Wf,toks:=tk+1};refine NO.turnedS (s:=s) (h':=Wf) (t':=tk+1) (ch:=[e,it]) I (fun b hb=>hf b hb) (fun b o hc q=>?_) (fun b o q=>by rw[ao (aI q hT)];exact q) (fun b hb n=>by rw[ao (JO hb)];exact n) fun b o n q=>?_
   ·simp at hc;exact b2.extBut b o hc.1 (a5 b o hc.1 hc.2 q)
   ·by_cases eb:b=s.heap.objs.size
    ·subst eb;rw[ac]at q;cases q;refine⟨N0,[.int i tk,v],.cons ⟨_,rfl⟩ (.cons X' .nil),_,b2.extBut _ _ ?_ a3,rfl,_,rfl⟩;exact fun z=>VV e _ he z.symm
    ·rw[ao eb,n]at q;cases q
  ·refine⟨⟨_,b1⟩,Fy a2 fun o q=>b2.extBut _ o La.symm q⟩
  ·have n:=(hf b hb).1;have:b≠s.heap.objs.size:=by
    simp at hb;obtain⟨_,q1,_⟩:=id h1;rcases hb with rfl|rfl
    ·exact VV _ _ he
    ·exact VV _ _ q1
   rw[ao this];exact n
 done:=by
  intro X hP hw hK hc i K3 s σ H E I hf st hg;subst hP hw hK;obtain⟨xs,hx,hl⟩:=hg;obtain⟨⟨UH,he⟩,h1⟩:=st;obtain⟨UP,VA,p1,z1⟩:=I.tuple hx;have e1:=VA.length;have kR:s.heap.IsTuple l UP.toArray:=let⟨o,a,b,n,c⟩:=p1;⟨o,a,b,n,c⟩;have nl:l≠it:=By kR h1;refine uH (I.ok.hd hc) he h1 kR (by simp;lia) fun h' k=>⟨rfl,?_⟩;obtain⟨f0,f1,f2,f3,f4,f5⟩:=hf it (by simp);exact I.turned (t':=s.toks) (fun b o hb q=>k b o hb q) f0 f1 f3 f4 f5
 self:=fun _ _ _ _ _ st h=>R5 st.1.choose_spec h
section
inductive sQ(K:ZF)(R:It->Hp->Prop)(vs:UG)(H1:Hp):Prop
 |mk(l:_):vs=[.ref l]->(∃xs,NL K H1 l xs)->R (wN K l) H1->sQ K R vs H1
def CU(K:ZF)(ta:TA):TI:=fun σ H R=>ta σ H fun vs H1=>sQ K R vs H1
def j7{U':List Expr}{kt:Nat}{tp:Pos}{a:Expr}{ta:TA}{p pos:Pos}(hg:Gl X "enumerate")(hm:X.mg "enumerate"=none)(ha:PA X [a] ta)(hs:starEach [a] X.env=[(false,eval a X.env)]:=by rfl):
  PI X (.Tuple U' kt tp) (.Call (.Name "enumerate" p) [a] [] pos) (CU X.K ta):=by
 refine⟨?_⟩;intro K3 s σ H R I h;refine Call_ (fj I hg hm lI (Ke (bN (ha pos K3 s σ H _ I h) fun us s1 hZZ=>?_) hs rfl));obtain⟨vs,H1,I1,r1,q1⟩:=hZZ;obtain⟨l,e,⟨xs,hx⟩,q⟩:=q1;subst e;cases r1 with
 |cons r rr=>
  cases rr;cases r;obtain⟨UP,VA,p1,z1⟩:=I1.tuple hx;have kR:s1.heap.IsTuple l UP.toArray:=let⟨o,a,b,n,c⟩:=p1;⟨o,a,b,n,c⟩;refine PySem.enum_of_tuple kR ?_;have sz:(s1.heap.push (PySem.tupIt l)).objs.size=s1.heap.objs.size+1:=Kl ..;have a1:IsEnum ((s1.heap.push (PySem.tupIt l)).push (PySem.enumOver s1.heap.objs.size)) (s1.heap.objs.size+1) s1.heap.objs.size 0 .none:=sz▸JG (s1.heap.push (PySem.tupIt l)) rfl;have a2:((s1.heap.push (PySem.tupIt l)).push (PySem.enumOver s1.heap.objs.size)).IsTupleIter s1.heap.objs.size l 0:=⟨_,Jz _ (JG _ rfl),rfl,rfl⟩;have a4:∀b o,s1.heap.get? b=some o->((s1.heap.push (PySem.tupIt l)).push (PySem.enumOver s1.heap.objs.size)).get? b=some o:=fun b o x=>Jz _ (Jz _ x);refine R5 a1 ?_;refine⟨_,[s1.heap.objs.size+1,s1.heap.objs.size],_,_,H1,rfl,I1.kept (t':=s1.toks) a4,qz (KC (Kv _)),⟨⟨_,a1⟩,a2⟩,fun b hb=>?_,q⟩;have Vr:s1.heap.objs.size<=b:=by
   simp only[JT,Kj,O_]at hb;rcases hb with e|e<;>rw[e]
   ·exact E_ _ _
   ·exact JB _
  exact I1.fpOk Vr (I1.hok.fresh Vr)
end
def iI{K:ZF}{l:Ux}{xs:UG}{g:TG}{tb:TS}{D:fh}{σ:St}{H:Hp}(Pv:Nat->St->Hp->Prop)(h0:Pv 0 σ H)(hl:∀i σ H,i<=xs.length->Pv i σ H->NL K H l xs)
  (hs:∀i x σ H T,xs[i]?=some x->H T=none->Pv i σ H->g (.ref T) σ (az H T (.tup [.int i,x])) fun σ2 H2=>tb {D with nx:=Pv (i+1),ct:=Pv (i+1),bk:=D.nx} σ2 H2) (hd:∀σ H,Pv xs.length σ H->D.nx σ H) :
  ∃W:Nat->Nat->St->Hp->Prop,(∃m,W 0 m σ H)/\∀i m σ H,W i m σ H->
   ((wN K l).stop i H/\D.nx σ H)\/((wN K l).go i H/\∃N:St->Hp->Prop,(∀σ' H',N σ' H'->∃m',m'<m/\W (i+1) m' σ' H')/\∀x H',(wN K l).yld i H x H'->g x σ H' fun σ2 H2=>tb {D with nx:=N,ct:=N,bk:=D.nx} σ2 H2):=by
 refine⟨fun i m σ H=>m=xs.length-i/\i<=xs.length/\Pv i σ H,⟨xs.length,by simp,JN _,h0⟩,?_⟩;rintro i m σ H ⟨rfl,hi,p⟩;have q:=hl i σ H hi p;by_cases Ld:i<xs.length
 ·refine .inr ⟨⟨xs,xs[i],q,by simp[Ld]⟩,Pv (i+1),fun σ' H' p'=>⟨xs.length-(i+1),zo,rfl,Ld,p'⟩,fun v H' y=>?_⟩;obtain⟨T,x,e1,hT,e2,hy⟩:=y;subst e1 e2;exact hs i x σ H T (hy xs q) hT p
 ·have e:i=xs.length:=by lia
  subst e;exact .inl ⟨⟨xs,q,JB _⟩,hd σ H p⟩
end L2
namespace L3
open PySem L2
def top(i:Nat):Stmt:=PySem.Challenge.pw_rowsbeneath_k68_ends_apart.main.body.getD i (.Pass ⟨0,0,0,0⟩)
abbrev fX:Stmt:=top 64
abbrev qA:Stmt:=top 15
abbrev mw:Stmt:=top 16
abbrev lJ:Stmt:=top 18
abbrev CV:Stmt:=top 32
abbrev dG:Stmt:=top 105
abbrev iJ:Stmt:=top 106
abbrev eV:Stmt:=top 107
abbrev gG:Stmt:=top 108
abbrev iK:Stmt:=top 109
abbrev fE:Stmt:=top 110
abbrev gH:Stmt:=top 111
abbrev iL:Stmt:=top 112
abbrev fF:Stmt:=top 113
abbrev iM:Stmt:=top 114
abbrev fY:Stmt:=top 115
abbrev j8:Stmt:=top 116
abbrev j9:Stmt:=top 117
abbrev iN:Stmt:=top 118
abbrev iO:Stmt:=top 119
abbrev ka:Stmt:=top 120
abbrev jy:Stmt:=top 138
abbrev eW:Stmt:=top 140
abbrev kc:Stmt:=top 141
abbrev gI:Stmt:=top 142
abbrev fG:Stmt:=top 143
abbrev gJ:Stmt:=top 144
abbrev jz:Stmt:=top 145
abbrev my:Stmt:=top 146
abbrev qB:Stmt:=top 147
abbrev qC:Stmt:=top 148
abbrev mz:Stmt:=top 149
abbrev mB:Stmt:=top 155
abbrev wO:Stmt:=top 156
abbrev CY:Stmt:=top 157
abbrev gK:Stmt:=top 158
abbrev wP:Stmt:=top 160
abbrev mC:Stmt:=top 161
abbrev wQ:Stmt:=top 162
abbrev qD:Stmt:=top 19
abbrev mD:Stmt:=top 68
abbrev gL:Stmt:=top 69
abbrev lK:Stmt:=top 71
abbrev hI:Stmt:=top 74
abbrev dk:Stmt:=top 75
abbrev wR:Stmt:=top 76
abbrev mE:Stmt:=top 77
abbrev jA:Stmt:=top 78
abbrev kd:Stmt:=top 79
def Fn(P:Uz)(w:UA)(K:ZF)(mg:Str->Option Uw)(base:Heap)(x:Str)(k:Nat)(ps:UD)(sp:Sp):Prop:=
 ∃(f:Ux)(fd:UC),mg x=some (.ref f)/\PySem.W.keepIn K (.ref f)=true/\N7 K fd ps []/\NN P w K mg base br k f fd ps sp
def Jt(sp:Sp)(t:TA):TE:=fun σ H Q=>t σ H fun vs H1=>sp vs H1 Q E0
def ap(h:Fn X.prog X.w X.K X.mg X.base x k ps sp)(hr:NZ k X.A)(hg:Gl X x)(ha:PA X (e::es) t)(VL:(x==("__debug__":Str))=false:=by decide)
  (he:starEach (e::es) X.env=(false,eval e X.env)::starEach es X.env:=by rfl) (Vm:(backTo pos (starEach es X.env)).any (·.1)=false:=by rfl):PE X (.Call (.Name x p) (e::es) [] pos) (Jt sp t):=by
 obtain⟨f,fd,hm,hk,hb,F⟩:=h;refine⟨?_⟩;intro K3 s σ H Q I q;have ha':PA X (e::es) t:=ha;refine zD (dvs:=[]) (E:=E0) F hr hg hm hk hb .nil dR ha' VL he Vm K3 s σ H Q I ?_;show t σ H fun vs H1=>sp (vs++[]) H1 Q E0;have e2:(fun vs H1=>sp (vs++[]) H1 Q E0)=fun vs H1=>sp vs H1 Q E0:=by
  funext vs H1;rw[Ko]
 rw[e2];exact q
def CZ(h:Fn X.prog X.w X.K X.mg X.base x k [] sp)(hr:NZ k X.A)(hg:Gl X x)(VL:(x==("__debug__":Str))=false:=by decide):PE X (.Call (.Name x p) [] [] pos) (fun _ H Q=>sp [] H Q E0):=by
 obtain⟨f,fd,hm,hk,hb,F⟩:=h;refine⟨?_⟩;intro K3 s σ H Q I q;exact wk (dvs:=[]) (E:=E0) F hr hg hm hk hb .nil dR VL K3 s σ H Q I q
def af(h:H p=none):NJ H (az H p o):=fun b u e=>by rw[ao (aI e h)];exact e
def nw{H H':Hp}{a:Ux}{o:HO}(n:H a=none)(z:az H a o=H'):NJ H H'/\H' a=some o:=z▸⟨af n,ac⟩
def bq(hp:H p=none)(s:NJ H H2):NJ H (az H2 p o):=fun b u e=>by rw[ao (aI e hp)];exact s b u e
section
variable{b:Bool}{A B:Prop}
def aN(e:b=false)(h:B):if b=true then A else B:=by rw[e];exact bJ h
def bj(e:b=true)(h:A):if b=true then A else B:=by rw[e];exact eQ h
def hJ{l:UE}{i:Nat}(h:i<l.length):sF (S l).cps.toList (i:Int)=some l[i]:=bD (by show l.toArray.toList[i]?=_;simp[h])
def Fz:("":Str)=S []:=by decide +kernel
def wS(z:Str):z=S z.cps.toList:=by
 show z=⟨z.cps.toList.toArray⟩;simp
def wT(a b:UE):S a++S b=S (a++b):=by
 show(⟨(S a).cps++(S b).cps⟩:Str)=⟨(a++b).toArray⟩
 congr 1
 simp[S]
def ce:bootBuiltins "isinstance"=some (.builtin "isinstance"):=by decide +kernel
def cm:bootBuiltins "list"=some (.type "list"):=by decide +kernel
def fZ:bootBuiltins "str"=some (.type "str"):=by decide +kernel
def ke:bootBuiltins "bool"=some (.type "bool"):=by decide +kernel
def aZ:bootBuiltins "tuple"=some (.type "tuple"):=by decide +kernel
def cG:bootBuiltins "all"=some (.builtin "all"):=by decide +kernel
structure Bl(mg:Str->Option Uw):Prop where
 len:mg "len"=none
 int:mg "int"=none
 max:mg "max"=none
 min:mg "min"=none
 range:mg "range"=none
 isinstance:mg "isinstance"=none
 list:mg "list"=none
 str:mg "str"=none
 bool:mg "bool"=none
 tuple:mg "tuple"=none
 all:mg "all"=none
def C0(x y z:Int):HO:=.lst [.int x,.int y,.int z]
def PD(H:Hp)(p:Ux):Prop:=∃x y z:Int,H p=some (C0 x y z)
def Ri(p:Ux)(H H':Hp):Prop:=∀b o,H b=some o->b≠p->H' b=some o
def Ri.refl(p:Ux)(H:Hp):Ri p H H:=fun _ _ e _=>e
def PD.same(a:PD H p)(b:NJ H H1):PD H1 p:=by obtain⟨x,y,z,e⟩:=a;exact ⟨x,y,z,b _ _ e⟩
def PD.ne(a:PD H p)(h:H q=none):p≠q:=by obtain⟨_,_,_,e⟩:=a;exact aI e h
inductive qE(K:ZF)(vs:UG)(H:Hp)(Q:VK)(Z3:XK):Prop
 |mk(a:Ux)(ns:List Int)(k:Int):vs=[.ref a,.int k]->NQ K H a (ns.map V.int)->0<=k->(∀c:Int,Q (.int c) H)->qE K vs H Q Z3
inductive kg(vs:UG)(H:Hp)(Q:VK)(Z3:XK):Prop
 |mk(c:Int):vs=[.int c]->(∀(p:Ux)H',H p=none->NJ H H'->PD H' p->Q (.ref p) H')->kg vs H Q Z3
inductive qF(vs:UG)(H:Hp)(Q:VK)(Z3:XK):Prop
 |mk(p:Ux)(m:Nat):vs=[.ref p,.int m]->PD H p->0<m->m<18446744073709551616->(∀(r:Nat)H',r<m->PD H' p->Ri p H H'->Q (.int r) H')->qF vs H Q Z3
section
def C1:al [Tq,"_law_k"] [Tq,"_law_k"] (ah wP):=bH zk
def zS(F:N1 K "_law_cell" "_law_cell" wP f fd)(T:Bl mg):NN P w K mg base br 1 f fd [Tq,"_law_k"] (qE K):=by
 have ZZ:=C1
 walk_at "o"
 ·obtain⟨a,ns,k,rfl,hS,h0,q⟩:=h;refine⟨_,ae (aM (ak dM (pv 1) (au aH (by rfl) T.len JI (aa (pv 0) ab))) (ag (am (ax b9 (pv 0) (pv 1)))) aw)
   (ag (am (aX cA (aX fq ai (pv 1)) ai))),?_⟩
  refine⟨_,rfl,_,rfl,a,_,rfl,.inl hS,_,_,rfl,rfl,_,rfl,?_⟩;refine eD (fun h=>?_) (fun h=>?_)
  ·have hl:k<((ns.map V.int).length:Int):=j_ h;rw[JC]at hl;obtain⟨n,rfl⟩:∃n:Nat,k=n:=⟨k.toNat,zo⟩;have hn:n<ns.length:=by lia
   refine⟨_,rfl,_,rfl,a,_,_,_,rfl,rfl,hS,bD (v:=.int ns[n]) (by simp[hn]),q _⟩
  ·exact⟨_,rfl,_,_,rfl,rfl,.inl ⟨zd,zd⟩,_,_,rfl,rfl,q _⟩
def wU:al [T4] [T4] (ah mC):=bH zk
def uI(F:N1 K "_law_stream" "_law_stream" mC f fd)(T:Bl mg):NN P w K mg base br 1 f fd [T4] kg:=by
 have ZZ:=wU
 walk_at "o"
 ·obtain⟨c,rfl,q⟩:=h;refine⟨_,ag (am (bF (aa (aX fq (pv 0) (aV uq (by rfl) T.int K0 (aa (bK Bi (pv 0) (aX Ch ai ai)) ab)))
   (aa (aX eO (pv 0) ai) (aa ai ab))))),?_⟩
  refine⟨_,rfl,_,rfl,_,_,rfl,rfl,⟨zd,zd,zd⟩,_,_,rfl,rfl,.inr ⟨_,rfl,?_⟩⟩;refine⟨_,_,rfl,rfl,.inr (by split<;>decide),_,rfl,_,_,rfl,rfl,(by show(0:Int)<2147483629;decide),N0,fun l hl=>?_⟩;exact q l _ hl (af hl) ⟨_,_,_,ac⟩
def Pk:al [Tz,"_law_many","_law_digit","_law_number"] [Tz,"_law_many"] (ah wQ):=bH zk
def o8(hm:0<m)(h:m<2^64):-(2^64)<n%m/\n%m<2^64:=by
 have:=Sx n (show m≠0 by lia);have:=Sj n hm;lia
def zT(F:N1 K "_law_take" "_law_take" wQ f fd):NN P w K mg base br 1 f fd [Tz,"_law_many"] qF:=by
 have ZZ:=Pk
 walk_at "o"
 ·obtain⟨p,m,rfl,⟨x,y,z,hp⟩,m0,m1,q⟩:=h;have P':∀(e x' y' z':Int)H1,0<=e->e<m->Ri p H H1->Q (.int e) (az H1 p (C0 x' y' z')):=fun e x' y' z' H1 h0 h1 b=>by
   have:=q e.toNat (az H1 p (C0 x' y' z')) zo ⟨_,_,_,ac⟩ (fun c o e n=>by rw[ao n];exact b c o e n);rw[Int.toNat_of_nonneg h0]at this;exact this
  have b1:∀o,Ri p H (az H p o):=fun o c u e n=>by rw[ao n];exact e
  refine⟨_,ae (aM (ak sC (ax b9 (pv 0) ai) ai)
    (ae (bS (i:=2) Pk.nd (aX eO (ax b9 (pv 0) ai) (pv 1)))
    (ae (cu (aX wF (ax b9 (pv 0) ai) (pv 1)) (jP (pv 0) ai fz))
    (ag (am (pv 2))))) aw)
   (ae (cu (aX cA (ax b9 (pv 0) ai) ai) (jP (pv 0) ai fz))
   (ae (bS (i:=3) Pk.nd (aX eO (aX cA (aX fq (aX cA (ax b9 (pv 0) ai) (aX fq ai (ax b9 (pv 0) ai))) ai) ai) ai))
   (ae (bS (i:=3) Pk.nd (aX eO (aX fq (pv 3) (pv 3)) ai))
   (ag (am (aX eO (aX zw (aX eO (aX cA (aX fq (pv 3) (pv 3)) (aX fq ai (ax b9 (pv 0) ai))) ai) ai) (pv 1))))))),?_⟩
  refine⟨_,rfl,p,_,_,_,rfl,rfl,NQ.of hp,rfl,_,_,rfl,rfl,_,rfl,?_⟩;refine eD (fun h=>?_) (fun h=>?_)
  ·refine⟨_,rfl,p,_,_,_,rfl,rfl,NQ.of hp,rfl,_,rfl,_,_,rfl,rfl,(by show(0:Int)<(m:Int);lia),?_⟩;refine⟨_,rfl,p,_,_,_,rfl,rfl,NQ.of hp,rfl,_,rfl,_,_,rfl,rfl,⟨by show(0:Int)<(m:Int);lia,by show(m:Int)<18446744073709551616;lia⟩,?_⟩;refine⟨_,rfl,p,_,_,_,rfl,rfl,hp,rfl,?_⟩;refine⟨_,rfl,?_⟩;exact P' _ _ _ _ _ (Sx _ zo) (Sj _ zo) (Ri.refl _ _)
  ·refine⟨_,rfl,p,_,_,_,rfl,rfl,NQ.of hp,rfl,_,_,rfl,rfl,?_⟩;refine⟨_,rfl,p,_,_,_,rfl,rfl,hp,rfl,?_⟩;refine⟨_,rfl,p,_,_,_,rfl,rfl,NQ.of ac,rfl,_,rfl,p,_,_,_,rfl,rfl,NQ.of ac,rfl,_,_,rfl,rfl,.inl ⟨zd,zd⟩,_,_,rfl,rfl,_,_,rfl,rfl,.inr ⟨zd,zd⟩,_,_,rfl,rfl,_,_,rfl,rfl,(by show(0:Int)<2147483647;decide),?_⟩;refine⟨_,rfl,_,rfl,_,_,rfl,rfl,.inl (o8 zd zd),_,_,rfl,rfl,(by show(0:Int)<2147483629;decide),?_⟩;refine⟨_,rfl,_,rfl,_,_,rfl,rfl,.inl (o8 zd zd),_,rfl,p,_,_,_,rfl,rfl,NQ.of ac,rfl,_,_,rfl,rfl,.inl ⟨zd,zd⟩,_,_,rfl,rfl,_,_,rfl,rfl,(by show(0:Int)<2147483587;decide),_,_,rfl,rfl,⟨zd,zd⟩,_,rfl,_,_,rfl,rfl,(by show(0:Int)<(m:Int);lia),?_⟩;exact P' _ _ _ _ _ (Sx _ zo) (Sj _ zo) (Ri.refl _ _)
end
end
def aJ(l:UD):UG:=l.map V.str
def bB(P:Uz)(w:UA)(K:ZF)(mg:Str->Option Uw)(base:Heap)(C:Ux)(nm:Str)(n:Nat)(ps:UD)(sp:Sp):Prop:=∃f fd,wg K C nm f/\NN P w K mg base br n f fd ps sp/\N7 K fd ps []
def zi(l:Ux)(k:Nat)(me:Bool):List (Str×V):=[(Tx,.ref l),(Uj,.int k),("may_end",.bl me)]
structure Oa(C:Ux)(H:Hp)(a l:Ux)(ts:UD)(k:Nat)(me:Bool):Prop where
 ob:∃dx,H a=some (.ins C dx (zi l k me))
 tk:H l=some (.lst (aJ (ts++[("":Str)])))
 le:ts.length<=1500
def NX(a:Ux)(H H':Hp):Prop:=∀b o,H b=some o->b≠a->H' b=some o
def NX.refl(p:Ux)(H:Hp):NX p H H:=fun _ _ e _=>e
def NX.trans(a:NX p H H1)(b:NX p H1 H2):NX p H H2:=fun c o e n=>b c o (a c o e n) n
def NX.same(a:NX p H H1)(b:NJ H1 H2):NX p H H2:=fun c o e n=>b c o (a c o e n)
def bR(b:NJ H H1):NX p H H1:=fun c o e _=>b c o e
def Oa.same(h:Oa C H a l ts k me)(s:NJ H H'):Oa C H' a l ts k me:=⟨let⟨dx,e⟩:=h.ob;⟨dx,s _ _ e⟩,s _ _ h.tk,h.le⟩
def Oa.ne(h:Oa C H a l ts k me):l≠a:=by
 rintro rfl;obtain⟨dx,e⟩:=h.ob;rw[h.tk]at e;cases e
structure Rc(K:ZF)(C:Ux):Prop where
 cl:Px K C
 n1:N3 K C Tx
 n2:N3 K C Uj
 n3:N3 K C "may_end"
inductive qG(C:Ux)(vs:UG)(H:Hp)(Q:VK)(Z3:XK):Prop
 |mk(a l ts k me z:_):vs=[.ref a]->Oa C H a l ts k me->(ts++[("":Str)])[k]?=some z->Q (.str z) H->qG C vs H Q Z3
inductive C2(C:Ux)(vs:UG)(H:Hp)(Q:VK)(Z3:XK):Prop
 |mk(a l ts k me z:_):vs=[.ref a]->Oa C H a l ts k me->(ts++[("":Str)])[k]?=some z->(∀H',Oa C H' a l ts (k+1) me->NX a H H'->Q (.str z) H')->C2 C vs H Q Z3
inductive qH(K:ZF)(C:Ux)(vs:UG)(H:Hp)(Q:VK)(Z3:XK):Prop
 |mk(a l ts k me z p xs:_):vs=[.ref a,.ref p]->Oa C H a l ts k me->(ts++[("":Str)])[k]?=some z->(NQ K H p (aJ xs)\/NL K H p (aJ xs))->z∈xs->(∀H',Oa C H' a l ts (k+1) me->NX a H H'->Q (.str z) H')->qH K C vs H Q Z3
abbrev wV:Stmt:=bO dG 1
abbrev HJ:Stmt:=bO dG 2
abbrev wW:Stmt:=bO dG 3
def wX{ts:UD}{k:Nat}{z:Str}(h:(ts++[("":Str)])[k]?=some z):(aJ (ts++[("":Str)]))[k]?=some (.str z):=by unfold aJ;rw[J5,h];rfl
def cZ(x:Str)(l:UD):kU (.str x) (aJ l)=l.contains x:=by
 unfold kU aJ;rw[List.any_map,Km,List.any_eq_true,J8];constructor
 ·rintro⟨y,hy,e⟩;have:y=x:=by simpa[uy]using e
  rw[<-this];exact hy
 ·intro hx;exact⟨x,hx,by simp[uy]⟩
def bu(l:UD):(aJ l).all gr=true:=by
 unfold aJ;rw[Sr,Ki];intro x _;rfl
section
def C3:al [SN] [SN] (ah wV):=bH zk
variable{fd:UC}{f:Ux}
def zU(F:N1 K "look" "Reader.look" wV f fd)(T:Rc K C):NN P w K mg base br 1 f fd [SN] (qG C):=by
 have ZZ:=C3
 walk_at "o"
 ·obtain⟨a,l,ts,k,me,z,rfl,hR,hz,q⟩:=h;refine⟨_,ag (am (ax b9 (aK (pv 0) rfl) (aK (pv 0) rfl))),?_⟩;obtain⟨dx,ho⟩:=hR.ob;exact⟨_,rfl,a,C,dx,_,_,rfl,ho,T.cl,T.n1,rfl,_,rfl,a,C,dx,_,_,rfl,ho,T.cl,T.n2,rfl,l,_,_,_,rfl,rfl,NQ.of hR.tk,bD (wX hz),q⟩
def HK:al [SN] [SN] (ah HJ):=bH zk
def FB(F:N1 K "take" "Reader.take" HJ f fd)(T:Rc K C):NN P w K mg base br 1 f fd [SN] (C2 C):=by
 have ZZ:=HK
 walk_at "o"
 ·obtain⟨a,l,ts,k,me,z,rfl,hR,hz,q⟩:=h;refine⟨_,ae (iE (pv 0) ai qf) (ag (am (ax b9 (aK (pv 0) rfl) (aX iB (aK (pv 0) rfl) ai)))),?_⟩;obtain⟨dx,ho⟩:=hR.ob;refine⟨_,rfl,a,C,dx,_,_,rfl,ho,T.cl,T.n2,rfl,_,_,rfl,rfl,dx,_,ho,(by show 3<1000;decide),?_⟩;have e1:(az H a (.ins C dx (aT Uj (.int ((k:Int)+1)) (zi l k me)))) a=some (.ins C dx (zi l (k+1) me)):=by rw[ac];rfl
  have e2:(az H a (.ins C dx (aT Uj (.int ((k:Int)+1)) (zi l k me)))) l=some (.lst (aJ (ts++[("":Str)]))):=by rw[ao hR.ne];exact hR.tk
  have b2:NX a H (az H a (.ins C dx (aT Uj (.int ((k:Int)+1)) (zi l k me)))):=fun b o e n=>by rw[ao n];exact e
  generalize az H a (.ins C dx (aT Uj (.int ((k:Int)+1)) (zi l k me)))=H1 at*;refine⟨_,rfl,a,C,dx,_,_,rfl,e1,T.cl,T.n1,rfl,_,rfl,a,C,dx,_,_,rfl,e1,T.cl,T.n2,rfl,_,_,rfl,rfl,l,_,_,_,rfl,rfl,NQ.of e2,?_,q _ ⟨⟨dx,e1⟩,e2,hR.le⟩ b2⟩;have:(((k+1:Nat):Int)-1)=(k:Int):=by lia
  rw[this];exact bD (wX hz)
structure Rm(P:Uz)(w:UA)(K:ZF)(mg:Str->Option Uw)(base:Heap)(C:Ux):Prop extends Rc K C where
 look:bB P w K mg base C "look" 1 [SN] (qG C)
 take:bB P w K mg base C "take" 1 [SN] (C2 C)
def C4:al [SN,Ti] [SN,Ti] (ah wW):=bH zk
def zV(F:N1 K "need" "Reader.need" wW f fd)(T:Rm P w K mg base C):NN P w K mg base br 2 f fd [SN,Ti] (qH K C):=by
 have ZZ:=C4
 walk_at "o"
 ·obtain⟨a,l,ts,k,me,z,p,xs,rfl,hR,hz,hp,hm,q⟩:=h;have K5:NZ 1 _:=hr;refine⟨_,ae (aM (ak du (aW (pv 0)) (pv 1) rfl) (ag aU) aw) (ag (am (aW (pv 0)))),?_⟩;obtain⟨dx,ho⟩:=hR.ob;obtain⟨f1,K7,M1,F1,B1⟩:=T.look;obtain⟨f2,UZ,M2,F2,B2⟩:=T.take;refine⟨_,rfl,a,dx,C,f1,_,K7,1,[SN],_,rfl,ho,rfl,T.cl,M1,F1,K5,B1,a,l,ts,k,me,z,rfl,hR,hz,_,rfl,p,aJ xs,rfl,?_,rfl,bu _,_,rfl,aN ?_ ?_⟩
  ·exact hp
  ·show(!kU (.str z) (aJ xs))=false;rw[cZ,J8.mpr hm];rfl
  ·exact⟨_,rfl,a,dx,C,f2,_,UZ,1,[SN],_,rfl,ho,rfl,T.cl,M2,F2,K5,B2,a,l,ts,k,me,z,rfl,hR,hz,q⟩
end
abbrev tz(ts:UD):UD:=ts++[("":Str)]
def ON:UD:=[S8,S1,S9,SZ,S5,TQ,S0,SU,S2,"number",Tn,"set",Ut,Uk,T9,To,Uh,S_,Ta,Tp,S3,"bell"]
def bL(z:Str):Prop:=z∉ON/\1<=z.length/\z.length<=8/\∀c∈z.cps.toList,97<=c/\c<=122
inductive C5(vs:UG)(H:Hp)(Q:VK)(Z3:XK):Prop
 |mk(z:_):vs=[.str z]->bL z->(∀H',NJ H H'->Q (.bl true) H')->C5 vs H Q Z3
inductive mF(vs:UG)(H:Hp)(Q:VK)(Z3:XK):Prop
 |mk(n:Nat):vs=[.str (toString (n:Int):Str)]->n<1000000000->(∀H',NJ H H'->Q (.int n) H')->mF vs H Q Z3
inductive mG(vs:UG)(H:Hp)(Q:VK)(Z3:XK):Prop
 |mk(i:Int):vs=[.int i]->Q (.bl true) H->mG vs H Q Z3
inductive dH(vs:UG)(H:Hp)(Q:VK)(Z3:XK):Prop
 |mk(i lo hi:Int):vs=[.int i,.int lo,.int hi]->lo<=i->i<=hi->Q (.bl true) H->dH vs H Q Z3
inductive gM(C:Ux)(vs:UG)(H:Hp)(Q:VK)(Z3:XK):Prop
 |mk(a l ts k me z:_):vs=[.ref a]->Oa C H a l ts k me->(tz ts)[k]?=some z->bL z->(∀H',Oa C H' a l ts (k+1) me->NX a H H'->Q (.str z) H')->gM C vs H Q Z3
inductive eX(C:Ux)(vs:UG)(H:Hp)(Q:VK)(Z3:XK):Prop
 |mk(a l ts k me:_)(n lo hi:Nat):vs=[.ref a,.int lo,.int hi]->Oa C H a l ts k me->(tz ts)[k]?=some (toString (n:Int):Str)->n<1000000000->lo<=n->n<=hi->(∀H',Oa C H' a l ts (k+1) me->NX a H H'->Q (.int n) H')->eX C vs H Q Z3
inductive iP(C:Ux)(vs:UG)(H:Hp)(Q:VK)(Z3:XK):Prop
 |mk(a l ts k:_):vs=[.ref a]->Oa C H a l ts k true->k=ts.length->Q .non H->iP C vs H Q Z3
abbrev iQ:Stmt:=bO dG 4
abbrev fH:Stmt:=bO dG 5
abbrev kh:Stmt:=bO dG 6
section
def zW:al [S6] [S6] (ah qA):=bH zk
def wY(F:N1 K "is_whole" "is_whole" qA f fd)(T:Bl mg):NN P w K mg base br 1 f fd [S6] mG:=by
 have ZZ:=zW
 walk_at "o"
 ·obtain⟨i,rfl,q⟩:=h;refine⟨_,ag (am (cP (au (dn (T:="int")) (by rfl) T.isinstance ce (aa (pv 0) (aa (dU (by rfl) T.int K0) ab))) (cO (vT (au (dn (T:="bool")) (by rfl) T.isinstance ce (aa (pv 0) (aa (dU (by rfl) T.bool ke) ab))))))),?_⟩;exact⟨_,rfl,_,_,_,rfl,.int _,rfl,_,rfl,eQ ⟨_,rfl,_,_,_,rfl,.int _,rfl,_,rfl,q⟩⟩
def wZ:al [S6,Uf,Tr] [S6,Uf,Tr] (ah mw):=bH zk
def uJ(F:N1 K "is_within" "is_within" mw f fd)(WH:Fn P w K mg base "is_whole" 1 [S6] mG):NN P w K mg base br 2 f fd [S6,Uf,Tr] dH:=by
 have ZZ:=wZ
 walk_at "o"
 ·obtain⟨i,lo,hi,rfl,h1,h2,q⟩:=h;refine⟨_,ag (am (cP (ap WH hr rfl (aa (pv 0) ab)) (cO (jQ fw fw (pv 1) (pv 0) (pv 2))))),?_⟩;refine⟨_,rfl,i,rfl,_,rfl,eQ ⟨_,rfl,_,rfl,_,_,rfl,rfl,_,rfl,bj (b_ h1) ⟨_,rfl,_,_,rfl,rfl,?_⟩⟩⟩;show Q (V.bl (decide (i<=hi))) H;rw[b_ h2];exact q
def qI:al [SN] [SN] (ah iQ):=bH zk
def o9(F:N1 K "need_name" "Reader.need_name" iQ f fd)(T:Rm P w K mg base C)(NM:Fn P w K mg base "is_name" 1 [S6] C5):NN P w K mg base br 2 f fd [SN] (gM C):=by
 have ZZ:=qI
 walk_at "o"
 ·obtain⟨a,l,ts,k,me,z,rfl,hR,hz,hn,q⟩:=h;have K5:NZ 1 _:=hr;refine⟨_,ae (aM (bP (bE (ap NM K5 rfl (aa (aW (pv 0)) ab)))) (ag aU) aw) (ag (am (aW (pv 0)))),?_⟩;obtain⟨dx,ho⟩:=hR.ob;obtain⟨f1,K7,M1,F1,B1⟩:=T.look;obtain⟨f2,UZ,M2,F2,B2⟩:=T.take;refine⟨_,rfl,a,dx,C,f1,_,K7,1,[SN],_,rfl,ho,rfl,T.cl,M1,F1,K5,B1,a,l,ts,k,me,z,rfl,hR,hz,z,rfl,hn,fun H1 s1=>⟨_,rfl,bJ ?_⟩⟩;exact⟨_,rfl,a,dx,C,f2,_,UZ,1,[SN],_,rfl,s1 _ _ ho,rfl,T.cl,M2,F2,K5,B2,a,l,ts,k,me,z,rfl,hR.same s1,hz,fun H2 r2 b2=>q H2 r2 ((bR s1).trans b2)⟩
def OA:al [SN,Uf,Tr,"number"] [SN,Uf,Tr] (ah fH):=bH zk
def k7(F:N1 K "need_number" "Reader.need_number" fH f fd)(T:Rm P w K mg base C)(NU:Fn P w K mg base "number_of" 1 [Uq] mF)(WI:Fn P w K mg base "is_within" 2 [S6,Uf,Tr] dH):NN P w K mg base br 3 f fd [SN,Uf,Tr] (eX C):=by
 have ZZ:=OA
 walk_at "o"
 ·obtain⟨a,l,ts,k,me,n,lo,hi,rfl,hR,hz,hn,h1,h2,q⟩:=h;refine⟨_,ae (bS (i:=3) OA.nd (ap NU hr.m rfl (aa (aW (pv 0)) ab)))
   (ae (aM (bP (bE (ap WI hr rfl (aa (pv 3) (aa (pv 1) (aa (pv 2) ab)))))) (ag aU) aw)
   (ae (iE (pv 0) ai qf) (ag (am (pv 3))))),?_⟩
  obtain⟨dx,ho⟩:=hR.ob;obtain⟨f1,K7,M1,F1,B1⟩:=T.look;refine⟨_,rfl,a,dx,C,f1,_,K7,1,[SN],_,rfl,ho,rfl,T.cl,M1,F1,hr.m,B1,a,l,ts,k,me,_,rfl,hR,hz,n,rfl,hn,fun H1 s1=>?_⟩;refine⟨_,rfl,_,rfl,_,rfl,(n:Int),(lo:Int),(hi:Int),rfl,zo,zo,_,rfl,bJ ?_⟩;have hR1:=hR.same s1;have U4:=s1 _ _ ho;refine⟨_,rfl,a,C,dx,_,_,rfl,U4,T.cl,T.n2,rfl,_,_,rfl,rfl,dx,_,U4,(by show 3<1000;decide),?_⟩;have e1:(az H1 a (.ins C dx (aT Uj (.int ((k:Int)+1)) (zi l k me)))) a=some (.ins C dx (zi l (k+1) me)):=by rw[ac];rfl
  have e2:(az H1 a (.ins C dx (aT Uj (.int ((k:Int)+1)) (zi l k me)))) l=some (.lst (aJ (ts++[("":Str)]))):=by rw[ao hR.ne];exact hR1.tk
  exact⟨_,rfl,q _ ⟨⟨dx,e1⟩,e2,hR.le⟩ (fun b o e n=>by rw[ao n];exact s1 _ _ e)⟩
def uK:al [SN] [SN] (ah kh):=bH zk
def qJ(F:N1 K "need_end" "Reader.need_end" kh f fd)(T:Rm P w K mg base C)(B:Bl mg):NN P w K mg base br 1 f fd [SN] (iP C):=by
 have ZZ:=uK
 walk_at "o"
 ·obtain⟨a,l,ts,k,rfl,hR,hk,q⟩:=h;refine⟨_,ag (aM (PW.pt (de (bP (bE (aK (pv 0) rfl))) (cX (ak dM (aX cA (aK (pv 0) rfl) ai) (au aH (by rfl) B.len JI (aa (aK (pv 0) rfl) ab)))))) (ag aU) aw),?_⟩;obtain⟨dx,ho⟩:=hR.ob;refine⟨_,rfl,a,C,dx,_,_,rfl,ho,T.cl,T.n3,rfl,_,rfl,bJ ?_⟩;refine⟨_,rfl,a,C,dx,_,_,rfl,ho,T.cl,T.n2,rfl,_,_,rfl,rfl,_,rfl,a,C,dx,_,_,rfl,ho,T.cl,T.n1,rfl,l,_,rfl,.inl (NQ.of hR.tk),_,_,rfl,rfl,_,rfl,aN (d_ ?_) q⟩;unfold aJ;rw[JC,JH];simp;lia
end
structure pX(P:Uz)(w:UA)(K:ZF)(mg:Str->Option Uw)(base:Heap)(C:Ux):Prop extends Rm P w K mg base C where
 need:bB P w K mg base C "need" 2 [SN,Ti] (qH K C)
 nname:bB P w K mg base C "need_name" 2 [SN] (gM C)
 nnum:bB P w K mg base C "need_number" 3 [SN,Uf,Tr] (eX C)
 nend:bB P w K mg base C "need_end" 1 [SN] (iP C)
inductive iU(C:Ux)(vs:UG)(H:Hp)(Q:VK)(Z3:XK):Prop
 |mk(a l ts k me wd:_)(n lo hi:Nat):vs=[.ref a,.str wd,.int lo,.int hi]->Oa C H a l ts k me->(tz ts)[k]?=some wd->(tz ts)[k+1]?=some (toString (n:Int):Str)->(tz ts)[k+2]?=some ";"->n<1000000000->lo<=n->n<=hi->(∀H',Oa C H' a l ts (k+3) me->NX a H H'->Q (.int n) H')->iU C vs H Q Z3
def lL(ts:UD)(k:Nat)(zs:UD):Prop:=∀i(h:i<zs.length),(tz ts)[k+i]?=some zs[i]/\bL zs[i]
inductive mH(C:Ux)(vs:UG)(H:Hp)(Q:VK)(Z3:XK):Prop
 |mk(a l ts k me wd zs:_)(lo hi:Nat):vs=[.ref a,.str wd,.int lo,.int hi]->Oa C H a l ts k me->(tz ts)[k]?=some wd->lL ts (k+1) zs->(tz ts)[k+1+zs.length]?=some ";"->lo<=zs.length->zs.length<=hi->hi<=10->(∀p H',Oa C H' a l ts (k+2+zs.length) me->NX a H H'->H p=none->H' p=some (.tup (aJ zs))->Q (.ref p) H')->mH C vs H Q Z3
section
def O9:al [SY,S8,Uf,Tr,"number"] [SY,S8,Uf,Tr] (ah eV):=bH zk
def qK(F:N1 K "read_bounded" "read_bounded" eV f fd)(T:pX P w K mg base C):NN P w K mg base br 4 f fd [SY,S8,Uf,Tr] (iU C):=by
 have ZZ:=O9
 walk_at "o"
 ·obtain⟨a,l,ts,k,me,wd,n,lo,hi,rfl,hR,t0,t1,t2,hn,h1,h2,q⟩:=h;refine⟨_,ae (aQ (aR (pv 0) (aa (av (aa (pv 1) ab)) ab)))
   (ae (bS (i:=4) O9.nd (aR (pv 0) (aa (pv 2) (aa (pv 3) ab))))
   (ae (aQ (aR (pv 0) (aa (av (aa aj ab)) ab)))
   (ag (am (pv 4))))),?_⟩
  obtain⟨f1,K7,M1,F1,B1⟩:=T.need;obtain⟨f2,UZ,M2,F2,B2⟩:=T.nnum;obtain⟨dx,ho⟩:=hR.ob;refine⟨_,rfl,a,dx,C,f1,_,K7,2,[SN,Ti],_,rfl,ho,rfl,T.cl,M1,F1,hr.m,B1,_,rfl,N0,fun p1 n1=>?_⟩;have s1:=af (o:=.tup [.str wd]) n1;refine⟨a,l,ts,k,me,wd,p1,[wd],rfl,hR.same s1,t0,(.inr (NL.of ac)),by simp,fun H1 r1 b1=>?_⟩;obtain⟨U_,U4⟩:=r1.ob;refine⟨_,rfl,a,U_,C,f2,_,UZ,3,[SN,Uf,Tr],_,rfl,U4,rfl,T.cl,M2,F2,hr,B2,_,rfl,_,rfl,a,l,ts,k+1,me,n,lo,hi,rfl,r1,t1,hn,h1,h2,fun H2 r2 b2=>?_⟩;obtain⟨U9,UL⟩:=r2.ob;refine⟨_,rfl,a,U9,C,f1,_,K7,2,[SN,Ti],_,rfl,UL,rfl,T.cl,M1,F1,hr.m,B1,N0,fun p2 n2=>?_⟩;have s2:=af (o:=.tup [.str ";"]) n2;refine⟨a,l,ts,k+2,me,";",p2,[";"],rfl,r2.same s2,t2,(.inr (NL.of ac)),by simp,fun H3 r3 b3=>?_⟩;exact⟨_,rfl,q H3 r3 (((bR s1).trans (b1.trans b2)).trans ((bR s2).trans b3))⟩
def Qa:al [SY,S8,"least","most",S7] [SY,S8,"least","most"] (ah gG):=bH zk
def w6(F:N1 K "read_names" "read_names" gG f fd)(T:pX P w K mg base C)(B:Bl mg):NN P w K mg base br 3 f fd [SY,S8,"least","most"] (mH C):=by
 have ZZ:=Qa
 walk_at "o"
 ·obtain⟨a,l,ts,k,me,wd,zs,lo,hi,rfl,hR,t0,tn,te,h1,h2,h10,q⟩:=h;refine⟨_,ae (aQ (aR (pv 0) (aa (av (aa (pv 1) ab)) ab)))
   (ae (bS (i:=4) Qa.nd (bF ab))
   (ae (df f_ (PW.pt (de (ak dM (au aH (by rfl) B.len JI (aa (pv 4) ab)) (pv 2)) (cX (PW.pt (cr (ak dM (au aH (by rfl) B.len JI (aa (pv 4) ab)) (pv 3)) (cb (ak fb (aW (pv 0)) aj)))))))
    (ag (aQ (fe J7 J1 J0 cg (pv 4) (aa (aW (pv 0)) ab)))))
   (ae (aQ (aR (pv 0) (aa (av (aa aj ab)) ab)))
   (ag (am (aV bh (by rfl) B.tuple aZ (aa (pv 4) ab))))))),?_⟩
  obtain⟨f1,K7,M1,F1,B1⟩:=T.need;obtain⟨f2,UZ,M2,F2,B2⟩:=T.nname;obtain⟨f3,UY,M3,F3,B3⟩:=T.look;obtain⟨dx,ho⟩:=hR.ob;have sz:(1000:Nat)<=sizeLine:=by decide
  refine⟨_,rfl,a,dx,C,f1,_,K7,2,[SN,Ti],_,rfl,ho,rfl,T.cl,M1,F1,hr,B1,_,rfl,N0,fun p1 n1=>?_⟩;have s1:=af (o:=.tup [.str wd]) n1;refine⟨a,l,ts,k,me,wd,p1,[wd],rfl,hR.same s1,t0,(.inr (NL.of ac)),by simp,fun H1 r1 b1=>?_⟩;have c1:NX a H H1:=(bR s1).trans b1;refine⟨N0,fun ln nn=>?_⟩;have s2:=af (o:=.lst []) nn;have e2:(az H1 ln (.lst [])) ln=some (.lst (aJ [])):=ac;have r2:=r1.same s2;have c2:=c1.same s2;have nH:H ln=none:=by
   by_cases hh:ln=a
   ·subst hh;obtain⟨U_,U4⟩:=r1.ob;rw[U4]at nn;cases nn
   ·cases hx:H ln with
    |none=>rfl
    |some o=>
     have:=c1 _ _ hx hh;rw[nn]at this;cases this
  have Wr:ln≠a:=by
   rintro rfl;rw[nH]at ho;cases ho
  have Zc:ln≠l:=fun z=>by
   have:=hR.tk;rw[<-z,nH]at this;cases this
  generalize az H1 ln (.lst ([]:UG))=H2 at*;refine⟨fun m σ H'=>∃i,i<=zs.length/\m=zs.length-i/\σ=[some (.ref a),some (.str wd),some (.int lo),some (.int hi),some (.ref ln)]/\Oa C H' a l ts (k+1+i) me/\NX a H H'/\H' ln=some (.lst (aJ (zs.take i))),⟨_,0,JN _,rfl,rfl,r2,c2,e2⟩,?_⟩;rintro m σ H3 ⟨i,hi3,rfl,rfl,r3,c3,e3⟩;have lt:(aJ (zs.take i)).length=i:=by
   unfold aJ;rw[JC,JU];lia
  obtain⟨Wa,Vo⟩:=r3.ob;by_cases Ld:i<zs.length
  ·obtain⟨ZL,Z'⟩:=tn i Ld;have tk1:zs.take (i+1)=zs.take i++[zs[i]]:=by rw[Kh,Kd Ld];rfl
   have Z7:zs[i]≠(";":Str):=by
    intro z;obtain⟨_,_,_,hc⟩:=Z';rw[z]at hc;exact absurd (hc 59 zk) zo
   by_cases hlo:i<lo
   ·refine⟨_,rfl,ln,_,rfl,.inl (NQ.of e3),_,rfl,_,_,rfl,rfl,_,rfl,bj (b_ (by rw[lt];lia)) ?_⟩;refine⟨fun σ' H'=>∃i',i'=i+1/\σ'=[some (.ref a),some (.str wd),some (.int lo),some (.int hi),some (.ref ln)]/\Oa C H' a l ts (k+1+i') me/\NX a H H'/\H' ln=some (.lst (aJ (zs.take i'))),fun σ' H'⟨i',e',a1,a2,a3,a4⟩=>⟨zs.length-i',zo,i',zo,rfl,a1,a2,a3,a4⟩,?_⟩;refine⟨_,rfl,.inl ⟨rfl,_,NQ.of e3⟩,_,rfl,a,Wa,C,f2,_,UZ,2,[SN],_,rfl,Vo,rfl,T.cl,M2,F2,hr,B2,a,l,ts,k+1+i,me,zs[i],rfl,r3,ZL,Z',fun H4 r4 b4=>?_⟩;have e4:=b4 _ _ e3 Wr;refine⟨ln,_,_,rfl,rfl,e4,by rw[lt];lia,i+1,rfl,rfl,?_,?_,?_⟩
    ·refine⟨?_,?_,r4.le⟩
     ·obtain⟨Wi,U5⟩:=r4.ob;exact⟨Wi,by rw[ao Wr.symm];exact U5⟩
     ·rw[ao Zc.symm];exact r4.tk
    ·intro b o e nb;by_cases hbl:b=ln
     ·rw[hbl,nH]at e;cases e
     ·rw[ao hbl];exact b4 _ _ (c3 _ _ e nb) nb
    ·rw[ac,tk1];unfold aJ;rw[JR];rfl
   ·refine⟨_,rfl,ln,_,rfl,.inl (NQ.of e3),_,rfl,_,_,rfl,rfl,_,rfl,aN (d_ (by rw[lt];lia)) ?_⟩;refine⟨_,rfl,ln,_,rfl,.inl (NQ.of e3),_,rfl,_,_,rfl,rfl,_,rfl,bj (b_ (by rw[lt];lia)) ?_⟩;refine⟨_,rfl,a,Wa,C,f3,_,UY,1,[SN],_,rfl,Vo,rfl,T.cl,M3,F3,hr.m,B3,a,l,ts,k+1+i,me,zs[i],rfl,r3,ZL,rfl,_,rfl,bj (by simpa using Z7) ?_⟩;refine⟨fun σ' H'=>∃i',i'=i+1/\σ'=[some (.ref a),some (.str wd),some (.int lo),some (.int hi),some (.ref ln)]/\Oa C H' a l ts (k+1+i') me/\NX a H H'/\H' ln=some (.lst (aJ (zs.take i'))),fun σ' H'⟨i',e',a1,a2,a3,a4⟩=>⟨zs.length-i',zo,i',zo,rfl,a1,a2,a3,a4⟩,?_⟩;refine⟨_,rfl,.inl ⟨rfl,_,NQ.of e3⟩,_,rfl,a,Wa,C,f2,_,UZ,2,[SN],_,rfl,Vo,rfl,T.cl,M2,F2,hr,B2,a,l,ts,k+1+i,me,zs[i],rfl,r3,ZL,Z',fun H4 r4 b4=>?_⟩;have e4:=b4 _ _ e3 Wr;refine⟨ln,_,_,rfl,rfl,e4,by rw[lt];lia,i+1,rfl,rfl,?_,?_,?_⟩
    ·refine⟨?_,?_,r4.le⟩
     ·obtain⟨Wi,U5⟩:=r4.ob;exact⟨Wi,by rw[ao Wr.symm];exact U5⟩
     ·rw[ao Zc.symm];exact r4.tk
    ·intro b o e nb;by_cases hbl:b=ln
     ·rw[hbl,nH]at e;cases e
     ·rw[ao hbl];exact b4 _ _ (c3 _ _ e nb) nb
    ·rw[ac,tk1];unfold aJ;rw[JR];rfl
  ·have Zm:i=zs.length:=by lia
   have ZN:(tz ts)[k+1+i]?=some ";":=by rw[Zm];exact te
   have ztk:aJ (zs.take i)=aJ zs:=by rw[Zm,Kg]
   by_cases hhi:i<hi
   ·refine⟨_,rfl,ln,_,rfl,.inl (NQ.of e3),_,rfl,_,_,rfl,rfl,_,rfl,aN (d_ (by rw[lt];lia)) ?_⟩;refine⟨_,rfl,ln,_,rfl,.inl (NQ.of e3),_,rfl,_,_,rfl,rfl,_,rfl,bj (b_ (by rw[lt];lia)) ?_⟩;refine⟨_,rfl,a,Wa,C,f3,_,UY,1,[SN],_,rfl,Vo,rfl,T.cl,M3,F3,hr.m,B3,a,l,ts,k+1+i,me,";",rfl,r3,ZN,rfl,_,rfl,aN (by simp) ?_⟩;refine⟨_,rfl,a,Wa,C,f1,_,K7,2,[SN,Ti],_,rfl,Vo,rfl,T.cl,M1,F1,hr,B1,N0,fun p2 n2=>?_⟩;have s4:=af (o:=.tup [.str ";"]) n2;refine⟨a,l,ts,k+1+i,me,";",p2,[";"],rfl,r3.same s4,ZN,(.inr (NL.of ac)),by simp,fun H4 r4 b4=>?_⟩;have e4:=b4 _ _ (s4 _ _ e3) Wr;rw[ztk]at e4;refine⟨_,rfl,ln,aJ zs,rfl,.inl ⟨NQ.of e4,fun p3 n3=>?_⟩⟩;have s5:=af (o:=.tup (aJ zs)) n3;have c4:NX a H H4:=(c3.same s4).trans b4;refine q p3 _ ?_ (c4.same s5) ?_ ac
    ·have:=r4.same s5;rw[Zm]at this;have e9:k+1+zs.length+1=k+2+zs.length:=by lia
     rw[e9]at this;exact this
    ·by_cases h3a:p3=a
     ·subst h3a;obtain⟨Wi,U5⟩:=r4.ob;rw[U5]at n3;cases n3
     ·cases hx:H p3 with
      |none=>rfl
      |some o=>
       have:=c4 _ _ hx h3a;rw[n3]at this;cases this
   ·refine⟨_,rfl,ln,_,rfl,.inl (NQ.of e3),_,rfl,_,_,rfl,rfl,_,rfl,aN (d_ (by rw[lt];lia)) ?_⟩;refine⟨_,rfl,ln,_,rfl,.inl (NQ.of e3),_,rfl,_,_,rfl,rfl,_,rfl,aN (d_ (by rw[lt];lia)) ?_⟩;refine⟨_,rfl,a,Wa,C,f1,_,K7,2,[SN,Ti],_,rfl,Vo,rfl,T.cl,M1,F1,hr,B1,N0,fun p2 n2=>?_⟩;have s4:=af (o:=.tup [.str ";"]) n2;refine⟨a,l,ts,k+1+i,me,";",p2,[";"],rfl,r3.same s4,ZN,(.inr (NL.of ac)),by simp,fun H4 r4 b4=>?_⟩;have e4:=b4 _ _ (s4 _ _ e3) Wr;rw[ztk]at e4;refine⟨_,rfl,ln,aJ zs,rfl,.inl ⟨NQ.of e4,fun p3 n3=>?_⟩⟩;have s5:=af (o:=.tup (aJ zs)) n3;have c4:NX a H H4:=(c3.same s4).trans b4;refine q p3 _ ?_ (c4.same s5) ?_ ac
    ·have:=r4.same s5;rw[Zm]at this;have e9:k+1+zs.length+1=k+2+zs.length:=by lia
     rw[e9]at this;exact this
    ·by_cases h3a:p3=a
     ·subst h3a;obtain⟨Wi,U5⟩:=r4.ob;rw[U5]at n3;cases n3
     ·cases hx:H p3 with
      |none=>rfl
      |some o=>
       have:=c4 _ _ hx h3a;rw[n3]at this;cases this
end
def hW:UE:=(List.range 26).map (97+·)
def zX:Str:="abcdefghijklmnopqrstuvwxyz"
def Bz:zX=S hW:=by decide +kernel
def sR(c:Nat)(h:97<=c/\c<=122):c∈hW:=by
 unfold hW;refine Ks.mpr ⟨c-97,Kx.mpr zo,zo⟩
structure C6(K:ZF)(mg:Str->Option Uw)(aO:Ux)(tL tN:Tok):Prop where
 own:mg "OWN_WORDS"=some (.ref aO)
 sq:∀H,NL K H aO (aJ ON)
 lets:mg "LETTERS"=some (.str zX tL)
 lng:mg "LONGEST_NAME"=some (.int 8 tN)
section
def w8:al [S6] [S6] (ah lJ):=bH zk
def C7:(["sign"]:UD).Nodup:=by decide +kernel
def zY(F:N1 K "is_name" "is_name" lJ f fd)(T:Bl mg)(C:C6 K mg aO tL tN):NN P w K mg base br 1 f fd [S6] C5:=by
 have ZZ:=w8
 walk_at "o"
 ·obtain⟨z,rfl,⟨Ww,h1,h8,hc⟩,q⟩:=h;refine⟨_,ae (aM (PW.pt (de (bP (bE (au (dn (T:="str")) (by rfl) T.isinstance ce (aa (pv 0) (aa (dU (by rfl) T.str fZ) ab)))))
    (cX (ak bX (pv 0) (be (v:=.ref aO) rfl C.own rfl) rfl)))) (ag (am cq)) aw)
   (ag (am (cP (jQ fw fw ai (au cc (by rfl) T.len JI (aa (pv 0) ab)) (be (v:=.int 8) rfl C.lng ⟨_,rfl⟩))
    (cO (au (cY rfl) (by rfl) T.all cG (aa (cI (N':=["sign"]) (ix:=[none]) (sc0:=ah lJ) (N:=[S6]) rfl zk (qt (pv 0))
     (fun C' cl s H fp=>bM (i:=0) C7) (fun _ _ _ _ _=>bz) (fun C' cl s H fp=>bK eB (pv 0) (be (v:=.str zX) rfl C.lets ⟨_,rfl⟩) rfl)) ab)))))),?_⟩
  have ez:z=S z.cps.toList:=wS z;have zl:z.length=z.cps.toList.length:=by show z.cps.size=_;simp
  generalize hl:z.cps.toList=l at*;subst ez;rw[bG]at h1 h8;have sz:(100000:Nat)<=sizeLine:=by decide
  refine⟨_,rfl,_,_,_,rfl,.str _,rfl,_,rfl,bJ ?_⟩;refine⟨_,rfl,aO,aJ ON,rfl,.inr (C.sq H),rfl,bu _,_,rfl,aN ?_ ?_⟩
  ·show kU (.str (S l)) (aJ ON)=false;rw[cZ];exact KB.mpr fun e=>Ww (J8.mp e)
  ·refine⟨_,rfl,S l,rfl,(by rw[bG];lia),_,_,rfl,rfl,_,rfl,?_⟩;rw[bG];refine bj (b_ zo) ⟨_,_,rfl,rfl,_,rfl,bj (b_ zo) ⟨_,rfl,l,rfl,?_⟩⟩;refine qu (fun i ys H'=>ys=(List.replicate i true).map V.bl/\NJ H H') ⟨rfl,NJ.refl _⟩ (fun i ys H' hi⟨e,_⟩=>by rw[e,JC,JM];lia) ?_ ?_
   ·rintro i ys H' hi ⟨rfl,s'⟩;refine⟨trivial,bC ?_⟩;refine⟨_,rfl,S [l[i]],_,rfl,rfl,?_⟩;rw[Bz,fW,b_ (sR _ (hc _ (K1 hi)))];refine Nx.mk hi ⟨?_,s'⟩;rw[v_,JR];rfl
   ·rintro ys H' ⟨rfl,s'⟩ D hD;refine⟨D,List.replicate l.length true,rfl,NQ.of ac,?_⟩;have:=q _ (s'.trans (af (o:=.lst ((List.replicate l.length true).map V.bl)) hD));have ea:(List.replicate l.length true).all id=true:=by simp
    rw[ea];exact this
end
def dg(n:Nat):UE:=(Nat.toDigits 10 n).map Char.toNat
def pd(h:n<10):dg n=[48+n]:=by
 unfold dg;rw[Nat.toDigits_of_lt_base h];have:∀d:Nat,d<10->[Nat.digitChar d].map Char.toNat=[48+d]:=by decide
 exact this n h
def xa(h:10<=n):dg n=dg (n / 10)++[48+n%10]:=by
 have hm:n%10<10:=Nat.mod_lt n zd;have t:Nat.toDigits 10 (n / 10)++Nat.toDigits 10 (n%10)=Nat.toDigits 10 (10*(n / 10)+n%10):=Nat.toDigits_append_toDigits zd zo hm;rw[Nat.div_add_mod]at t;rw[<-pd hm];unfold dg;rw[<-t,JR]
def qL(n:Nat):∀c∈dg n,48<=c/\c<=57:=by
 induction n using Nat.strongRecOn with
 |_ n ih=>
  by_cases h:n<10
  ·rw[pd h];intro c hc;rw[JL.mp hc];lia
  ·rw[xa zo];intro c hc;rcases Kc.mp hc with hc|hc
   ·exact ih (n / 10) zo c hc
   ·rw[JL.mp hc];lia
def gN(n:Nat):1<=(dg n).length/\∀k,1<=k->n<10^k->(dg n).length<=k:=by
 induction n using Nat.strongRecOn with
 |_ n ih=>
  by_cases h:n<10
  ·rw[pd h];exact⟨by simp,fun k hk _=>by simpa using hk⟩
  ·rw[xa zo];obtain⟨a,b⟩:=ih (n / 10) zo;refine⟨by rw[JH];simp,fun k hk hn=>?_⟩;rw[JH];have Zl:2<=k:=by
    rcases(by lia:k=1\/2<=k)with rfl|z
    ·simp at hn;lia
    ·exact z
   have:=b (k-1) zo (by
    have e:10^k=10^(k-1)*10:=by rw[<-Nat.pow_succ];congr 1;lia
    rw[e]at hn;exact Nat.div_lt_of_lt_mul (by rw[Nat.mul_comm];exact hn))
   simp;lia
def zZ(n:Nat)(h1:1<=n):(dg n)[0]?≠some 48:=by
 induction n using Nat.strongRecOn with
 |_ n ih=>
  by_cases h:n<10
  ·rw[pd h];simp;lia
  ·rw[xa zo];have hl:=(gN (n / 10)).1;rw[Ky zo];exact ih (n / 10) zo zo
def fI(n:Nat):(toString (n:Int):Str)=S (dg n):=by
 have:=PySem.W.KIN.signs_num n;have e:=wS (toString (n:Int):Str);rw[e]
 congr 1
def FC:UE:=(List.range 10).map (48+·)
def C8:Str:="0123456789"
def FD:C8=S FC:=by decide +kernel
def z3(c:Nat)(h:48<=c/\c<=57):c∈FC:=Ks.mpr ⟨c-48,Kx.mpr zo,zo⟩
section
def ph:cH X (.type "int") (fun xs H Q=>∃n:Nat,xs=[.str (toString (n:Int):Str)]/\n<1000000000/\Q (.int n) H):=by
 intro K3 s σ H xs us Q I r h;obtain⟨n,rfl,hn,q⟩:=h;obtain⟨u,rfl,rx⟩:=dB r;obtain⟨t,rfl⟩:=rx;exact PySem.W.KIN.call_num zo zo ⟨.int n,H,I.tok _,⟨_,rfl⟩,q⟩
end
section
def qM:al [Uq] [Uq] (ah fX):=bH zk
def pi(F:N1 K "number_of" "number_of" fX f fd)(T:Bl mg)(hF:mg "FIGURES"=some (.str C8 tF))(hM:mg "MOST_FIGURES"=some (.int 9 tM)):NN P w K mg base br 1 f fd [Uq] mF:=by
 have ZZ:=qM
 walk_at "o"
 ·obtain⟨n,rfl,hn,q⟩:=h;refine⟨_,ae (aM (PW.pt (de (bP (jR fw fw ai (au cc (by rfl) T.len JI (aa (pv 0) ab)) (be (v:=.int 9) rfl hM ⟨_,rfl⟩)))
    (cX (bP (bE (au (cY rfl) (by rfl) T.all cG (aa (cI (N':=["sign"]) (ix:=[none]) (sc0:=ah fX) (N:=[Uq]) rfl zk (qt (pv 0))
     (fun C' cl s H fp=>bM (i:=0) C7) (fun _ _ _ _ _=>bz) (fun C' cl s H fp=>bK eB (pv 0) (be (v:=.str C8) rfl hF ⟨_,rfl⟩) rfl)) ab))))))) (ag (am cN)) aw)
   (ae (aM (PW.pt (cr (ak aY (ax jV (pv 0) ai) aj) (cb (ak sC (au cc (by rfl) T.len JI (aa (pv 0) ab)) ai)))) (ag (am cN)) aw)
   (ag (am (aV ph (by rfl) T.int K0 (aa (pv 0) ab))))),?_⟩
  have es:=fI n;obtain⟨l1,l9'⟩:=gN n;have l9:=l9' 9 zd zo;have sz:(100000:Nat)<=sizeLine:=by decide
  rw[es];refine⟨_,rfl,S (dg n),rfl,(by rw[bG];lia),_,_,rfl,rfl,_,rfl,?_⟩;rw[bG];refine bj (b_ zo) ⟨_,_,rfl,rfl,_,rfl,?_⟩;rw[b_ (show((dg n).length:Int)<=9 by lia)];refine bJ ⟨_,rfl,dg n,rfl,?_⟩;refine qu (fun i ys H'=>ys=(List.replicate i true).map V.bl/\NJ H H') ⟨rfl,NJ.refl _⟩ (fun i ys H' hi⟨e,_⟩=>by rw[e,JC,JM];lia) ?_ ?_
  ·rintro i ys H' hi ⟨rfl,s'⟩;refine⟨trivial,bC ?_⟩;refine⟨_,rfl,S [(dg n)[i]],_,rfl,rfl,?_⟩;rw[FD,fW,b_ (z3 _ (qL n _ (K1 hi)))];refine Nx.mk hi ⟨?_,s'⟩;rw[v_,JR];rfl
  ·rintro ys H' ⟨rfl,s'⟩ D hD;have s2:=af (o:=.lst ((List.replicate (dg n).length true).map V.bl)) hD;refine⟨D,List.replicate (dg n).length true,rfl,NQ.of ac,?_⟩;have ea:(List.replicate (dg n).length true).all id=true:=by simp
   rw[ea];refine⟨_,rfl,bJ ?_⟩;refine⟨_,rfl,S (dg n),0,(dg n)[0],rfl,rfl,(by rw[bG];lia),?_,rfl,_,rfl,?_⟩
   ·exact hJ (i:=0) zo
   ·by_cases hz:n=0
    ·subst hz;have e00:(dg 0)[0]=48:=by simp[pd (n:=0) zd]
     refine bj (b_ (by rw[e00];decide +kernel)) ?_;refine⟨_,rfl,S (dg 0),rfl,(by rw[bG];lia),_,_,rfl,rfl,_,rfl,aN zk ?_⟩;exact⟨_,rfl,0,by rw[fI],hn,q _ (s'.trans s2)⟩
    ·have hd:=zZ n zo;refine aN ?_ (bJ ?_)
     ·refine d_ fun e=>hd ?_;have e2:=V.str.inj e;have e3:S [(dg n)[0]]=S [48]:=e2.trans zk;have e4:[(dg n)[0]]=[48]:=by
       have:=i_ (fun z:Str=>z.cps.toList) e3;simpa[S]using this
      rw[Kd zo];exact i_ some (List.cons.inj e4).1
     ·exact⟨_,rfl,n,by rw[fI],hn,q _ (s'.trans s2)⟩
end
end L3
namespace L3
open PySem L2 TK
structure z4(K:ZF)(mg:Str->Option Uw)(aD:Ux)(tG tS:Tok):Prop where
 gaps:mg "GAPS"=some (.str " \n" tG)
 sing:mg "SINGLE_SIGNS"=some (.str "(){}[],;+-&|^<=" tS)
 doub:mg "DOUBLE_SIGNS"=some (.ref aD)
 sq:∀H,NL K H aD [.str "<<",.str ">>"]
 len:mg "len"=none
def vs(ts:List (UE)):UG:=ts.map fun t=>V.str (S t)
inductive mI(xs:UG)(H:Hp)(Q:VK)(Z3:XK):Prop
 |mk(l:UE)(i:Nat):xs=[.str (S l),.int i]->i<l.length->l.length<=100000->Q (.str (S ((l.drop i).take (jh (l.drop i))))) H->mI xs H Q Z3
inductive xb(xs:UG)(H:Hp)(Q:VK)(Z3:XK):Prop
 |mk(l:UE)(i:Nat):xs=[.str (S l),.int i]->i<l.length->l.length<=100000->Q (.str (S ((l.drop i).take (run (l.drop i))))) H->xb xs H Q Z3
inductive qN(xs:UG)(H:Hp)(Q:VK)(Z3:XK):Prop
 |mk(l:UE):xs=[.str (S l)]->l.length<=100000->(∀(p:Ux)(H':Hp),H p=none->H' p=some (.lst (vs (toks l)))->NJ H H'->Q (.ref p) H')->qN xs H Q Z3
variable{i:Nat}
def sS{l:UE}(h:i<l.length):fg l (some (i:Int)) (some ((i:Int)+2))=(l.drop i).take 2:=by
 unfold fg;have e:((i:Int)+2)=((i+2:Nat):Int):=by lia
 rw[e,HT.sIx_nat,HT.sIx_nat,show min i l.length=i by lia];by_cases c:i+2<=l.length
 ·rw[show min (i+2) l.length-i=2 by lia]
 ·rw[KL (by rw[Kp];lia),KL (by rw[Kp];lia)]
def C9{l:UE}{i j:Nat}(h:j<=l.length):fg l (some (i:Int)) (some (j:Int))=(l.drop i).take (j-i):=by
 unfold fg;rw[HT.sIx_nat,HT.sIx_nat,show min j l.length=j by lia];by_cases c:i<=l.length
 ·rw[show min i l.length=i by lia]
 ·rw[show min i l.length=l.length by lia,Ss,List.drop_eq_nil_of_le zo];simp
def gf{l:UE}(h:i<l.length):l.drop i=l[i]::l.drop (i+1):=Ka h
def xc:(" \n":Str)=S [32,10]:=by decide +kernel
def Da:("(){}[],;+-&|^<=":Str)=S [40,41,123,125,91,93,44,59,43,45,38,124,94,60,61]:=by decide +kernel
def HL:("<<":Str)=S [60,60]:=by decide +kernel
def HM:(">>":Str)=S [62,62]:=by decide +kernel
def sU(c:Nat):decide (c∈[32,10])=gq c:=by
 rw[Km,P_];unfold gq;simp
def z9(c:Nat):decide (c∈[40,41,123,125,91,93,44,59,43,45,38,124,94,60,61])=dE c:=by
 rw[Km,P_];unfold dE;rw[J8]
def Aa(t:UE):kU (.str (S t)) [.str "<<",.str ">>"]=(decide (t=[60,60])||decide (t=[62,62])):=by
 unfold kU;rw[HL,HM];show((S [60,60]==S t)||((S [62,62]==S t)||false))=_;have e:∀u:UE,(S u==S t)=decide (t=u):=fun u=>by
  rw[Km,P_,beq_iff_eq,Q4];exact⟨fun h=>h.symm,fun h=>h.symm⟩
 rw[e,e,Bool.or_false]
section
def Dc:al [T6,Ui] [T6,Ui] (ah wO):=bH zk
def Ab{f aD:Ux}{fd:UC}{tG tS:Tok}(F:N1 K "sign_at" "sign_at" wO f fd)(T:z4 K mg aD tG tS):NN P w K mg base br 1 f fd [T6,Ui] mI:=by
 have ZZ:=Dc
 walk_at "o"
 ·obtain⟨l,i,rfl,hi,hz,q⟩:=h;have sz:(100000:Nat)<=sizeLine:=by decide
  refine⟨_,ae (aM (ak bX (cB jZ (pv 0) (cy (pv 1)) (cy (aX cA (pv 1) ai))) (be (v:=.ref aD) rfl T.doub rfl) rfl) (ag (am (cB jZ (pv 0) (cy (pv 1)) (cy (aX cA (pv 1) ai))))) aw)
   (ae (aM (ak eB (ax jV (pv 0) (pv 1)) (be (v:=.str "(){}[],;+-&|^<=") rfl T.sing ⟨_,rfl⟩) rfl) (ag (am (ax jV (pv 0) (pv 1)))) aw)
   (ag (am aj))),?_⟩
  refine⟨_,rfl,_,rfl,_,rfl,_,rfl,_,_,rfl,rfl,_,rfl,l,rfl,hz,?_⟩;rw[sS hi];refine⟨aD,_,rfl,.inr (T.sq H),rfl,rfl,_,rfl,?_⟩;show if kU (.str (S ((l.drop i).take 2))) [.str "<<",.str ">>"]=true then _ else _;have two:jh (l.drop i)=if kU (.str (S ((l.drop i).take 2))) [.str "<<",.str ">>"]=true then 2 else if dE l[i]=true then 1 else 0:=by
   rw[Aa,gf hi];cases hd:l.drop (i+1)with
   |nil=>rw[fV];simp
   |cons d r=>
    rw[dW];simp
  by_cases c:kU (.str (S ((l.drop i).take 2))) [.str "<<",.str ">>"]=true
  ·rw[g_ c]at two;refine bj c ?_;refine⟨_,rfl,_,rfl,_,rfl,_,rfl,_,_,rfl,rfl,_,rfl,l,rfl,hz,?_⟩;rw[sS hi];rw[two]at q;exact q
  ·rw[e_ c]at two;refine aN (by simpa using c) ?_;refine⟨_,rfl,_,rfl,_,_,l[i],rfl,rfl,(by rw[bG];lia),hJ hi,_,_,rfl,rfl,_,rfl,?_⟩;rw[Da];have e:=fW l[i] [40,41,123,125,91,93,44,59,43,45,38,124,94,60,61];rw[z9]at e;by_cases c2:dE l[i]=true
   ·rw[g_ c2]at two;refine bj (e.trans c2) ?_;refine⟨_,rfl,_,rfl,_,_,l[i],rfl,rfl,(by rw[bG];lia),hJ hi,?_⟩;rw[two,gf hi]at q;exact q
   ·rw[e_ c2]at two;refine aN (e.trans (by simpa using c2)) ?_;rw[two]at q;exact q
end
section
def QQ:al [T6,Ui,"behind"] [T6,Ui] (ah CY):=bH zk
def take_nil{l:UE}{n:Nat}(h:n<=l.length):l.take n=[]↔n=0:=by
 constructor
 ·intro e;have:=i_ List.length e;rw[JU,KO]at this;lia
 ·intro e;rw[e,List.take_zero]
variable{tG tS:Tok}{fd:UC}{f aD:Ux}
def De(F:N1 K "run_at" "run_at" CY f fd)(T:z4 K mg aD tG tS)(SG:Fn P w K mg base "sign_at" 1 [T6,Ui] mI):NN P w K mg base br 2 f fd [T6,Ui] xb:=by
 have ZZ:=QQ
 walk_at "o"
 ·obtain⟨l,i,rfl,hi,hz,q⟩:=h;have sz:(100000:Nat)<=sizeLine:=by decide
  have sl:(S l).length<=sizeLine:=by rw[bG];lia
  refine⟨_,ae (bS (i:=2) QQ.nd (pv 1))
   (ae (df f_ (PW.pt (cr (ak dM (pv 2) (au cc (by rfl) T.len JI (aa (pv 0) ab)))
     (cr (ak lY (ax jV (pv 0) (pv 2)) (be (v:=.str " \n") rfl T.gaps ⟨_,rfl⟩) rfl) (cb (ak aY (ap SG hr rfl (aa (pv 0) (aa (pv 2) ab))) aj)))))
    (ag (lW (i:=2) QQ.nd rfl (Or.inl rfl) ai pY)))
   (ag (am (cB jZ (pv 0) (cy (pv 1)) (cy (pv 2)))))),?_⟩
  refine⟨_,rfl,?_⟩;refine⟨fun m σ H'=>∃k:Nat,σ=[some (.str (S l)),some (.int i),some (.int (i+k:Nat))]/\m=l.length-(i+k)/\i+k<=l.length/\run (l.drop i)=k+run (l.drop (i+k))/\H'=H,
   ⟨_,0,rfl,rfl,zo,by rw[Nat.add_zero,Nat.zero_add],rfl⟩,?_⟩
  rintro m σ H' ⟨k,rfl,rfl,hk,YR,rfl⟩;have out:run (l.drop (i+k))=0->E4 (IZ (fun x lo hi H Q=>∃l,x=.str (S l)/\l.length<=100000/\Q (.str (S (fg l lo hi))) H) (uf 0) (wo (uf 1)) (wo (uf 2))) {nx:=fun _ H'=>Q .non H',rt:=Q} [some (.str (S l)),some (.int i),some (.int (i+k:Nat))] H':=fun e=>by
   refine⟨_,rfl,_,rfl,_,rfl,_,rfl,_,rfl,l,rfl,hz,?_⟩;rw[C9 hk,show i+k-i=k by lia];rw[YR,e,Nat.add_zero]at q;exact q
  refine⟨_,rfl,_,rfl,S l,rfl,sl,_,_,rfl,rfl,_,rfl,?_⟩;by_cases c:i+k<l.length
  ·refine bj (b_ (by rw[bG];lia)) ?_;refine⟨_,rfl,_,rfl,_,_,l[i+k],rfl,rfl,sl,hJ c,_,_,rfl,rfl,_,rfl,?_⟩;rw[xc];have e:=fW l[i+k] [32,10];rw[sU]at e;have e':(!(!(Builtin.Str.occurrences (S [32,10]) (S [l[i+k]]) 0 (S [32,10]).length 1).isEmpty))=!gq l[i+k]:=by rw[e]
   have rc:run (l.drop (i+k))=if(gq l[i+k]||jh (l.drop (i+k)) != 0)=true then 0 else 1+run (l.drop (i+k+1)):=by
    rw[gf c,cC]
   cases g:gq l[i+k]with
   |true=>
    refine aN (e'.trans (by rw[g];rfl)) (bJ ?_);exact out (by rw[rc,g];rfl)
   |false=>
    refine bj (e'.trans (by rw[g];rfl)) ?_;refine⟨_,rfl,_,rfl,l,i+k,rfl,c,hz,rfl,_,rfl,?_⟩;rw[Fz];by_cases s0:jh (l.drop (i+k))=0
    ·refine bj (b_ (by rw[s0];rfl)) ?_;refine⟨fun σ' H2=>σ'=[some (.str (S l)),some (.int i),some (.int (i+(k+1):Nat))]/\H2=H',fun σ' H2⟨e1,e2⟩=>⟨l.length-(i+(k+1)),zo,k+1,e1,rfl,zo,?_,e2⟩,?_⟩
     ·rw[YR,rc,g,s0];show k+(1+run (l.drop (i+k+1)))=_;rw[Nat.add_assoc i k 1];lia
     ·refine⟨_,rfl,_,_,rfl,rfl,?_,rfl⟩;show [some (V.str (S l)),some (V.int i),some (V.int (((i+k:Nat):Int)+1))]=_;rw[show(((i+k:Nat):Int)+1)=((i+(k+1):Nat):Int)by lia]
    ·refine aN (d_ ?_) ?_
     ·intro z;injection z with z';have:=(take_nil (mq (l.drop (i+k)))).mp (Q4.mp z');exact s0 this
     ·exact out (by rw[rc,g];simp[s0])
  ·refine aN (d_ (by rw[bG];lia)) (bJ ?_);have:l.drop (i+k)=[]:=List.drop_eq_nil_of_le zo;exact out (by rw[this];rfl)
def OG:al [T6,Tx,Ui,Uq] [T6] (ah mB):=bH zk
def xf(a b:List (UE)):vs (a++b)=vs a++vs b:=JR
def xg(a:List (UE)):(vs a).length=a.length:=JC _
def Ac(F:N1 K "tokens_of" "tokens_of" mB f fd)(T:z4 K mg aD tG tS)(SG:Fn P w K mg base "sign_at" 1 [T6,Ui] mI)(RN:Fn P w K mg base "run_at" 2 [T6,Ui] xb):
  NN P w K mg base br 3 f fd [T6] qN:=by
 have ZZ:=OG
 walk_at "o"
 ·obtain⟨l,rfl,hz,q⟩:=h;have sz:(100000:Nat)<sizeLine:=by decide
  have sl:(S l).length<=sizeLine:=by rw[bG];lia
  refine⟨_,ae (bS (i:=1) OG.nd (bF ab))
   (ae (bS (i:=2) OG.nd ai)
   (ae (df f_ (ak dM (pv 2) (au cc (by rfl) T.len JI (aa (pv 0) ab)))
    (ag (aM (ak eB (ax jV (pv 0) (pv 2)) (be (v:=.str " \n") rfl T.gaps ⟨_,rfl⟩) rfl) (ag (lW (i:=2) OG.nd rfl (Or.inl rfl) ai pY))
     (ae (bS (i:=3) OG.nd (CB (ap SG hr.m rfl (aa (pv 0) (aa (pv 2) ab))) (cO (ap RN hr rfl (aa (pv 0) (aa (pv 2) ab))))))
     (ae (aQ (fe J7 J1 J0 cg (pv 1) (aa (pv 3) ab)))
     (ag (lW (i:=2) OG.nd rfl (Or.inl rfl) (au cc (by rfl) T.len JI (aa (pv 3) ab)) pY)))))))
   (ag (am (pv 1))))),?_⟩
  refine⟨N0,fun p hp=>?_⟩;refine⟨fun m σ H'=>∃(k:Nat)(ts:List (UE))(v:Option V),σ=[some (.str (S l)),some (.ref p),some (.int k),v]/\m=l.length-k/\k<=l.length/\H' p=some (.lst (L3.vs ts))/\NJ H H'/\ts++toks (l.drop k)=toks l/\ts.length<=k,
   ⟨_,0,[],none,rfl,rfl,zo,ac,af hp,rfl,JB _⟩,?_⟩
  rintro m σ H' ⟨k,ts,v,rfl,rfl,hk,g,s1,e,hl⟩;refine⟨_,rfl,_,rfl,S l,rfl,sl,_,_,rfl,rfl,_,rfl,?_⟩;by_cases c:k<l.length
  ·refine bj (b_ (by rw[bG];lia)) ?_;refine⟨fun σ' H2=>∃(k':Nat)(X4:List (UE))(v':Option V),σ'=[some (.str (S l)),some (.ref p),some (.int k'),v']/\k<k'/\k'<=l.length/\H2 p=some (.lst (L3.vs X4))/\NJ H H2/\X4++toks (l.drop k')=toks l/\X4.length<=k',
    fun σ' H2⟨k',X4,v',e1,e2,e3,e4,e5,e6,e7⟩=>⟨l.length-k',zo,k',X4,v',e1,rfl,e3,e4,e5,e6,e7⟩,?_⟩
   refine⟨_,rfl,_,rfl,_,_,l[k],rfl,rfl,sl,hJ c,_,_,rfl,rfl,_,rfl,?_⟩;rw[xc];have ec:=fW l[k] [32,10];rw[sU]at ec;cases gg:gq l[k]with
   |true=>
    refine bj (ec.trans gg) ?_;refine⟨_,rfl,_,_,rfl,rfl,?_⟩;refine⟨k+1,ts,v,?_,zo,c,g,s1,?_,zo⟩
    ·show [some (V.str (S l)),some (V.ref p),some (V.int ((k:Int)+1)),v]=_;rw[show((k:Int)+1)=((k+1:Nat):Int)by lia]
    ·rw[<-e,gf c,gY gg]
   |false=>
    refine aN (ec.trans gg) ?_;refine⟨_,rfl,_,rfl,l,k,rfl,c,hz,?_⟩;have dl:(l.drop k).length=l.length-k:=Kp;have ol:=Cz (l.drop k);have op:0<one (l.drop k):=by rw[gf c];exact jw gg
    have tk:ts++[(l.drop k).take (one (l.drop k))]++toks (l.drop (k+one (l.drop k)))=toks l:=by
     rw[<-e,JY,show l.drop (k+one (l.drop k))=(l.drop k).drop (one (l.drop k))by rw[List.drop_drop]]
     congr 1
     rw[gf c,oR gg];rfl
    have tl:((l.drop k).take (one (l.drop k))).length=one (l.drop k):=by rw[JU];lia
    have tz:((l.drop k).take (jh (l.drop k))).length<=100000:=by rw[JU];lia
    refine⟨_,rfl,tz,?_⟩;by_cases s0:jh (l.drop k)=0
    ·rw[g_ ((take_nil (mq _)).mpr s0)];refine⟨_,rfl,_,rfl,l,k,rfl,c,hz,?_⟩;rw[show run (l.drop k)=one (l.drop k)from(g_ s0).symm];refine⟨_,rfl,.inl ⟨rfl,_,NQ.of g⟩,_,rfl,p,_,_,rfl,rfl,g,(by rw[xg];lia),?_⟩;refine⟨_,rfl,_,rfl,S ((l.drop k).take (one (l.drop k))),rfl,(by rw[bG];lia),_,_,rfl,rfl,?_⟩;refine⟨k+one (l.drop k),ts++[(l.drop k).take (one (l.drop k))],some (.str (S ((l.drop k).take (one (l.drop k))))),?_,zo,zo,?_,bq hp s1,tk,by rw[JH];simp;lia⟩
     ·show [some (V.str (S l)),some (V.ref p),some (V.int ((k:Int)+((S ((l.drop k).take (one (l.drop k)))).length:Int))),some (V.str (S ((l.drop k).take (one (l.drop k)))))]=_;rw[bG,tl,show((k:Int)+(one (l.drop k):Int))=((k+one (l.drop k):Nat):Int)by lia]
     ·rw[ac,xf];rfl
    ·rw[e_ (fun z=>s0 ((take_nil (mq _)).mp z))];rw[show jh (l.drop k)=one (l.drop k)from(e_ s0).symm];refine⟨_,rfl,.inl ⟨rfl,_,NQ.of g⟩,_,rfl,p,_,_,rfl,rfl,g,(by rw[xg];lia),?_⟩;refine⟨_,rfl,_,rfl,S ((l.drop k).take (one (l.drop k))),rfl,(by rw[bG];lia),_,_,rfl,rfl,?_⟩;refine⟨k+one (l.drop k),ts++[(l.drop k).take (one (l.drop k))],some (.str (S ((l.drop k).take (one (l.drop k))))),?_,zo,zo,?_,bq hp s1,tk,by rw[JH];simp;lia⟩
     ·show [some (V.str (S l)),some (V.ref p),some (V.int ((k:Int)+((S ((l.drop k).take (one (l.drop k)))).length:Int))),some (V.str (S ((l.drop k).take (one (l.drop k)))))]=_;rw[bG,tl,show((k:Int)+(one (l.drop k):Int))=((k+one (l.drop k):Nat):Int)by lia]
     ·rw[ac,xf];rfl
  ·refine aN (d_ (by rw[bG];lia)) ?_;have:k=l.length:=by lia
   subst this;rw[Ss,wB,Ko]at e;subst e;exact⟨_,rfl,q p H' hp g s1⟩
end
end L3
namespace L3
open PySem L2
def Ad(l:UE):Bool:=!ON.contains (S l)&&(decide (1<=l.length)&&(decide (l.length<=8)&&l.all fun c=>decide (c∈hW)))
inductive xh(vs:UG)(H:Hp)(Q:VK)(Z3:XK):Prop
 |mk(l:UE):vs=[.str (S l)]->l.length<=1000->(∀H',NJ H H'->Q (.bl (Ad l)) H')->xh vs H Q Z3
section
def xi(F:N1 K "is_name" "is_name" lJ f fd)(T:Bl mg)(C:C6 K mg aO tL tN):NN P w K mg base br 1 f fd [S6] xh:=by
 have ZZ:=w8
 walk_at "o"
 ·obtain⟨l,rfl,hl,q⟩:=h;refine⟨_,ae (aM (PW.pt (de (bP (bE (au (dn (T:="str")) (by rfl) T.isinstance ce (aa (pv 0) (aa (dU (by rfl) T.str fZ) ab)))))
    (cX (ak bX (pv 0) (be (v:=.ref aO) rfl C.own rfl) rfl)))) (ag (am cq)) aw)
   (ag (am (cP (jQ fw fw ai (au cc (by rfl) T.len JI (aa (pv 0) ab)) (be (v:=.int 8) rfl C.lng ⟨_,rfl⟩))
    (cO (au (cY rfl) (by rfl) T.all cG (aa (cI (N':=["sign"]) (ix:=[none]) (sc0:=ah lJ) (N:=[S6]) rfl zk (qt (pv 0))
     (fun C' cl s H fp=>bM (i:=0) C7) (fun _ _ _ _ _=>bz) (fun C' cl s H fp=>bK eB (pv 0) (be (v:=.str zX) rfl C.lets ⟨_,rfl⟩) rfl)) ab)))))),?_⟩
  have sz:(100000:Nat)<=sizeLine:=by decide
  refine⟨_,rfl,_,_,_,rfl,.str _,rfl,_,rfl,bJ ?_⟩;have YF:kU (.str (S l)) (aJ ON)=ON.contains (S l):=cZ _ _;refine⟨_,rfl,aO,aJ ON,rfl,.inr (C.sq H),rfl,bu _,_,rfl,eD (fun h=>?_) (fun h=>?_)⟩
  ·have h':ON.contains (S l)=true:=by rw[<-YF];exact h
   have e:Ad l=false:=by unfold Ad;rw[h'];rfl
   have:=q H (NJ.refl _);rw[e]at this;exact this
  ·have h':ON.contains (S l)=false:=by rw[<-YF];exact KB.mpr h
   have e:Ad l=(decide (1<=l.length)&&(decide (l.length<=8)&&l.all fun c=>decide (c∈hW))):=by unfold Ad;rw[h'];rfl
   rw[e]at q;refine⟨_,rfl,S l,rfl,(by rw[bG];lia),_,_,rfl,rfl,_,rfl,?_⟩;rw[bG];refine eD (fun h1=>?_) (fun h1=>?_)
   ·have Zs:1<=l.length:=by have:=j_ h1;lia
    refine⟨_,_,rfl,rfl,_,rfl,eD (fun h2=>?_) (fun h2=>?_)⟩
    ·have h2':l.length<=8:=by have:=j_ h2;lia
     refine⟨_,rfl,l,rfl,?_⟩;refine qu (fun i ys H'=>ys=((l.take i).map fun c=>decide (c∈hW)).map V.bl/\NJ H H') ⟨rfl,NJ.refl _⟩ (fun i ys H' hi⟨e,_⟩=>by rw[e,JC,JC,JU];lia) ?_ ?_
     ·rintro i ys H' hi ⟨rfl,s'⟩;refine⟨trivial,bC ?_⟩;refine⟨_,rfl,S [l[i]],_,rfl,rfl,?_⟩;rw[Bz,fW];refine Nx.mk hi ⟨?_,s'⟩;rw[Kh,Kd hi,JR,JR];rfl
     ·rintro ys H' ⟨rfl,s'⟩ D hD;rw[Kg];refine⟨D,l.map fun c=>decide (c∈hW),rfl,NQ.of ac,?_⟩;have:=q _ (s'.trans (af (o:=.lst ((l.map fun c=>decide (c∈hW)).map V.bl)) hD));rw[b_ Zs,b_ h2']at this;have ea:(l.map fun c=>decide (c∈hW)).all id=l.all fun c=>decide (c∈hW):=by rw[Sr];rfl
      rw[ea];exact this
    ·have h2':¬l.length<=8:=fun z=>h2 (b_ zo);have:=q H (NJ.refl _);rw[b_ Zs,d_ h2']at this;exact this
   ·have Zs:¬1<=l.length:=fun z=>h1 (b_ zo);have:=q H (NJ.refl _);rw[d_ Zs]at this;exact⟨_,rfl,bJ this⟩
end
def Df(h:bL z):Ad z.cps.toList=true:=by
 obtain⟨h0,h1,h2,h3⟩:=h;have ez:=wS z;have zl:z.length=z.cps.toList.length:=by show z.cps.size=_;simp
 unfold Ad;rw[<-ez,KB.mpr fun e=>h0 (J8.mp e),b_ zo,b_ zo];have:(z.cps.toList.all fun c=>decide (c∈hW))=true:=Ki.mpr fun c hc=>b_ (sR _ (h3 c hc));rw[this];rfl
def FE(n:Nat):Ad (dg n)=false:=by
 unfold Ad;have hl:=(gN n).1;have:(dg n).all (fun c=>decide (c∈hW))=false:=by
  rw[List.all_eq_false];cases e:dg n with
  |nil=>rw[e]at hl;simp at hl
  |cons c r=>
   refine⟨c,JF,?_⟩;have hc:=qL n c (by rw[e];exact JF);have Ww:∀c,48<=c->c<=57->¬c∈hW:=by
    intro c h1 h2 hm;have:∀x∈hW,97<=x:=by decide
    have:=this c hm;lia
   simp[Ww c hc.1 hc.2]
 rw[this];simp
def At(ts:UD)(k:Nat)(l:UD):Prop:=∀(i:Nat)(z:Str),l[i]?=some z->(tz ts)[k+i]?=some z
def At.hd(h:At ts k (x::l)):(tz ts)[k]?=some x:=h 0 x rfl
def At.tl(h:At ts k (x::l)):At ts (k+1) l:=fun i z e=>by
 have:=h (i+1) z (by simpa using e);rw[show k+(i+1)=k+1+i by lia]at this;exact this
def At.l(h:At ts k (a++b)):At ts k a:=fun i z e=>h i z (by rw[Ky (JA.mp e).1];exact e)
def At.r(h:At ts k (a++b)):At ts (k+a.length) b:=fun i z e=>by
 have:=h (a.length+i) z (by rw[KP zo,show a.length+i-a.length=i by lia];exact e);rw[show k+(a.length+i)=k+a.length+i by lia]at this;exact this
def FF(e:ts=A++(l++B))(h:A.length=k):At ts k l:=fun i z hz=>by
 subst e h;have hi:=(JA.mp hz).1;unfold tz;rw[JY,KP zo,show A.length+i-A.length=i by lia,JY,Ky hi];exact hz
inductive Ex where
 |num (n:Nat)
 |nm (z:Str)
 |cell (e:Ex)
 |two (o:Str) (x y:Ex)
def ki:UD:=[("+":Str),("-":Str),("&":Str),("|":Str),("^":Str),("<<":Str),(">>":Str),("<":Str),("=":Str)]
def eJ:Ex->UD
 |.num n=>[(toString (n:Int):Str)]
 |.nm z=>[z]
 |.cell e=>("[":Str)::(eJ e++[("]":Str)])
 |.two o x y=>("(":Str)::(eJ x++o::(eJ y++[(")":Str)]))
def O7(H:Hp):Ex->V->Prop
 |.num n,v=>∃p,v=.ref p/\H p=some (.tup [.str ("number":Str),.int (n:Nat)])
 |.nm z,v=>∃p,v=.ref p/\H p=some (.tup [.str ("name":Str),.str z])
 |.cell e,v=>∃p u,v=.ref p/\H p=some (.tup [.str ("cell":Str),u])/\O7 H e u
 |.two o x y,v=>∃p u t,v=.ref p/\H p=some (.tup [.str o,u,t])/\O7 H x u/\O7 H y t
def O7.kt(k:N6 H H'):∀{e:Ex}{v:V},O7 H e v->O7 H' e v
 |.num _,_,⟨p,a,b⟩=>⟨p,a,k _ _ b⟩
 |.nm _,_,⟨p,a,b⟩=>⟨p,a,k _ _ b⟩
 |.cell _,_,⟨p,u,a,b,c⟩=>⟨p,u,a,k _ _ b,O7.kt k c⟩
 |.two _ _ _,_,⟨p,u,t,a,b,c,d⟩=>⟨p,u,t,a,k _ _ b,O7.kt k c,O7.kt k d⟩
def fJ(w:Nat):Nat->Ex->Prop
 |_,.num n=>n<2^w
 |_,.nm z=>bL z
 |0,.cell _=>False
 |m+1,.cell e=>fJ w m e
 |0,.two _ _ _=>False
 |m+1,.two o x y=>o∈ki/\fJ w m x/\fJ w m y
inductive Gs where
 |cell (a e:Ex)
 |nm (z:Str) (e:Ex)
def vN:Gs->UD
 |.cell a e=>("[":Str)::(eJ a++("]":Str)::("=":Str)::(eJ e++[(";":Str)]))
 |.nm z e=>z::("=":Str)::(eJ e++[(";":Str)])
def O5(H:Hp)(g:Gs)(v:V):Prop:=match g with
 |.cell a e=>∃p u t,v=.ref p/\H p=some (.tup [.str ("cell":Str),u,t])/\O7 H a u/\O7 H e t
 |.nm z e=>∃p t,v=.ref p/\H p=some (.tup [.str ("name":Str),.str z,t])/\O7 H e t
def O5.kt(k:N6 H H'):∀{g:Gs}{v:V},O5 H g v->O5 H' g v
 |.cell _ _,_,⟨p,u,t,a,b,c,d⟩=>⟨p,u,t,a,k _ _ b,c.kt k,d.kt k⟩
 |.nm _ _,_,⟨p,t,a,b,c⟩=>⟨p,t,a,k _ _ b,c.kt k⟩
def Gs.isCell:Gs->Bool
 |.cell _ _=>true
 |.nm _ _=>false
def Ae(w:Nat):Gs->Prop
 |.cell a e=>fJ w 3 a/\fJ w 3 e
 |.nm z e=>bL z/\fJ w 3 e
inductive En where
 |w0 (s:Str)
 |w1 (s z:Str)
def oC:En->UD
 |.w0 s=>[s]
 |.w1 s z=>[s,z]
inductive Rh(H:Hp)(e:En)(v:V):Prop
 |mk(p:_):v=.ref p->H p=some (.tup ((oC e).map V.str))->Rh H e v
def uL:En->Prop
 |.w0 s=>s∈([(To:Str),(Ta:Str),(Tp:Str)]:UD)
 |.w1 s z=>s∈([(Uh:Str),(S_:Str),(S3:Str)]:UD)/\bL z/\(s=(S3:Str)->z∉([(T0:Str),(T7:Str)]:UD))
inductive Bd where
 |leaf (sets:List Gs) (en:En)
 |ite (top:Bool) (z:Str) (y n:Bd)
def bZ:List Gs->UD
 |[]=>[]
 |g::r=>("set":Str)::(vN g++bZ r)
def iw:Bd->UD
 |.leaf s e=>("{":Str)::(bZ s++(oC e++[("}":Str)]))
 |.ite t z y n=>("{":Str)::(Ut:Str)::((if t then [(T9:Str),z]else [z])++(iw y++(Uk:Str)::(iw n++[("}":Str)])))
inductive OX(H:Hp)(t:Bool)(z:Str)(v:V):Prop
 |mk(p:_):v=.ref p->H p=some (.tup [.str (if t then(T9:Str)else(Ut:Str)),.str z])->OX H t z v
def Qq(H:Hp):Bd->V->Prop
 |.leaf s e,v=>∃p q us u,v=.ref p/\H p=some (.tup [.str (TD:Str),.ref q,u])/\H q=some (.tup us)/\Paired (fun v g=>O5 H g v) us s/\Rh H e u
 |.ite t z y n,v=>∃p u a b,v=.ref p/\H p=some (.tup [.str (Ut:Str),u,a,b])/\OX H t z u/\Qq H y a/\Qq H n b
def jo(w:Nat):Nat->Bd->Prop
 |_,.leaf s e=>s.length<=4/\(∀g∈s,Ae w g)/\(∀i j:Nat,∀g h,s[i]?=some g->s[j]?=some h->g.isCell=true->h.isCell=true->i=j)/\uL e
 |0,.ite _ _ _ _=>False
 |m+1,.ite _ z y n=>bL z/\jo w m y/\jo w m n
inductive Ed where
 |num (n:Nat)
 |fld (j:Nat)
 |pl (b:Bool) (n:Nat)
 |mk(b:Bool)(n:Nat)
 |cell (e:Ed)
 |two (o:Str) (x y:Ed)
inductive Sd where
 |cell (a e:Ed)
 |pl (b:Bool) (n:Nat) (e:Ed)
 |mk(b:Bool)(n:Nat)(e:Ed)
inductive Ee where
 |w0 (s:Str)
 |fault (z:Str)
 |go (s:Str) (j:Nat)
inductive Tt where
 |top (b:Bool) (n:Nat)
 |pl (b:Bool) (n:Nat)
 |mk(b:Bool)(n:Nat)
inductive Dd where
 |leaf (s:List Sd) (e:Ee)
 |ite (t:Tt) (y n:Dd)
def hZ:Sp:=fun _ _ _ _=>False
def c8:NN P w K mg base br k f fd ps hZ:=⟨fun _ _ _ _ h=>h.elim,fun _ _ _ _ _ _ _ _ _ _ _ _ _ h=>h.elim⟩
inductive kj(C:Ux)(m:Nat)(vs:UG)(H:Hp)(Q:VK)(Z3:XK):Prop
 |mk(a l ts k me e:_)(w b:Nat):vs=[.ref a,.int w,.int b]->b+m=3->w<=24->Oa C H a l ts k me->At ts k (eJ e)->fJ w m e->(∀v H',Oa C H' a l ts (k+(eJ e).length) me->NX a H H'->O7 H' e v->Q v H')->kj C m vs H Q Z3
inductive pj(C:Ux)(m:Nat)(vs:UG)(H:Hp)(Q:VK):Prop
 |mk(a l ts k me e:_)(w b:Nat):vs=[.ref a,.int w,.int b]->b+m=3->w<=24->Oa C H a l ts k me->At ts k (eJ (.cell e))->fJ w m e->(∀v H',Oa C H' a l ts (k+(eJ (.cell e)).length) me->NX a H H'->O7 H' (.cell e) v->Q v H')->pj C m vs H Q
def mJ(C:Ux):Nat->Sp
 |0=>hZ
 |m+1=>fun vs H Q _=>pj C m vs H Q
inductive sV(C:Ux)(m:Nat)(vs:UG)(H:Hp)(Q:VK):Prop
 |mk(a l ts k me o x y:_)(w b:Nat):vs=[.ref a,.int w,.int b]->b+m=3->w<=24->Oa C H a l ts k me->At ts k (eJ (.two o x y))->o∈ki->fJ w m x->fJ w m y->(∀v H',Oa C H' a l ts (k+(eJ (.two o x y)).length) me->NX a H H'->O7 H' (.two o x y) v->Q v H')->sV C m vs H Q
def qO(C:Ux):Nat->Sp
 |0=>hZ
 |m+1=>fun vs H Q _=>sV C m vs H Q
structure ZE(mg:Str->Option Uw)(t5:Tok):Prop where
 mb:mg "MOST_BRACKETS"=some (.int 3 t5)
def BA:Sp:=fun vs H Q _=>vs=[]/\∀p,H p=none->Q (.ref p) (az H p (.lst (aJ ki)))
def NX.kt(b:NX a H H')(h:H a=some (.ins C dx fs)):N6 H H':=fun c xs e=>b _ _ e (by
 rintro rfl;rw[h]at e;cases e)
def Af:Ex->Str
 |.num n=>(toString (n:Int):Str)
 |.nm z=>z
 |.cell _=>"["
 |.two _ _ _=>"("
def Dg:∀{e:Ex},At ts k (eJ e)->(tz ts)[k]?=some (Af e)
 |.num _,h=>h.hd
 |.nm _,h=>h.hd
 |.cell _,h=>h.hd
 |.two _ _ _,h=>h.hd
def BB{n:Nat}{t:UE}(h:∀c∈t,c<48\/57<c):(toString (n:Int):Str)≠S t:=by
 rw[fI];intro e;have e':dg n=t:=i_ (fun z:Str=>z.cps.toList) e;have hl:=(gN n).1;cases ed:dg n with
 |nil=>rw[ed]at hl;simp at hl
 |cons c r=>
  have h1:=qL n c (by rw[ed];exact JF);have h2:=h c (by rw[<-e',ed];exact JF);lia
def mK(hn:bL z)(h:∀c∈t,c<97\/122<c):z≠S t:=by
 intro e;have h1:=hn.2.1;have e':z.cps.toList=t:=i_ (fun z:Str=>z.cps.toList) e;have zl:z.length=z.cps.toList.length:=by show z.cps.size=_;simp
 cases et:t with
 |nil=>rw[e',et]at zl;simp at zl;lia
 |cons c r=>
  have hc:c∈z.cps.toList:=by rw[e',et];exact JF
  have h3:=hn.2.2.2 c hc;have h4:=h c (by rw[et];exact JF);lia
def Dh:("[":Str)=S [91]:=by decide +kernel
def FG:("(":Str)=S [40]:=by decide +kernel
def xj:∀{e:Ex},fJ w m e->(∀x,e≠.cell x)->Af e≠"["
 |.num n,_,_=>by rw[Dh];exact BB (by simp)
 |.nm z,h,_=>by
  have hn:bL z:=by cases m<;>exact h
  rw[Dh];exact mK hn (by simp)
 |.cell x,_,h=>absurd rfl (h x)
 |.two _ _ _,_,_=>by show("(":Str)≠"[";decide +kernel
def xk:∀{e:Ex},fJ w m e->(∀o x y,e≠.two o x y)->Af e≠"("
 |.num n,_,_=>by rw[FG];exact BB (by simp)
 |.nm z,h,_=>by
  have hn:bL z:=by cases m<;>exact h
  rw[FG];exact mK hn (by simp)
 |.two o x y,_,h=>absurd rfl (h o x y)
 |.cell _,_,_=>by show("[":Str)≠"(";decide +kernel
section
def FH:al [] [] (ah CV):=bH zk
def Di(F:N1 K "ops_told" "ops_told" CV f fd)(T:Bl mg)(ho:mg "OPS"=some (.ref aO))(hd:dc w K aO kvs)(hk:kvs.map (·.1)=ki)(lo:(aO==sysModules)=false):NN P w K mg base br 1 f fd [] BA:=by
 have ZZ:=FH
 walk_at "o"
 ·obtain⟨rfl,q⟩:=h;refine⟨_,ag (am (aV (kZ rfl) (by rfl) T.list cm (aa (be (v:=.ref aO) rfl ho rfl) ab))),?_⟩;have hl:kvs.length=9:=by
   have:=i_ List.length hk;rw[JC]at this;exact this
  refine⟨aO,kvs,rfl,hd,by rw[hk];decide +kernel,lo,zo,fun p hp=>?_⟩;have e:(kvs.map fun kv=>V.str kv.1)=aJ ki:=by
   unfold aJ;rw[<-hk,KR];rfl
  rw[e];exact q p hp
def Qe:al [SY,SV,Tl,T3] [SY,SV,Tl] (ah iO):=bH zk
def kl(F:N1 K "read_cell" "read_cell" iO f fd)(T:pX P w K mg base C)(EX:Fn P w K mg base "read_expression" n [SY,SV,Tl] (kj C m))(hn:3<=n):NN P w K mg base br (n+1) f fd [SY,SV,Tl] (mJ C (m+1)):=by
 have ZZ:=Qe
 walk_at "o"
 ·obtain⟨a,l,ts,k,me,e,w,b,rfl,hb,hw,hR,hA,hE,q⟩:=h;have K6:NZ 2 _:=hr.mono zo;refine⟨_,ae (aQ (aR (pv 0) (aa (av (aa aj ab)) ab)))
   (ae (bS (i:=3) Qe.nd (ap EX hr rfl (aa (pv 0) (aa (pv 1) (aa (pv 2) ab)))))
   (ae (aQ (aR (pv 0) (aa (av (aa aj ab)) ab)))
   (ag (am (av (aa aj (aa (pv 3) ab))))))),?_⟩
  obtain⟨f1,K7,M1,F1,B1⟩:=T.need;obtain⟨dx,ho⟩:=hR.ob;have UN:At ts k (("[":Str)::(eJ e++[("]":Str)])):=hA;refine⟨_,rfl,a,dx,C,f1,_,K7,2,[SN,Ti],_,rfl,ho,rfl,T.cl,M1,F1,K6,B1,N0,fun p1 n1=>?_⟩;have s1:=af (o:=.tup [.str "["]) n1;refine⟨a,l,ts,k,me,"[",p1,["["],rfl,hR.same s1,UN.hd,.inr (NL.of ac),JF,fun H1 r1 b1=>?_⟩;have WW:NX a H H1:=(bR s1).trans b1;refine⟨_,rfl,_,rfl,_,rfl,a,l,ts,k+1,me,e,w,b,rfl,hb,hw,r1,UN.tl.l,hE,fun u H2 r2 b2 v2=>?_⟩;obtain⟨U9,UL⟩:=r2.ob;refine⟨_,rfl,a,U9,C,f1,_,K7,2,[SN,Ti],_,rfl,UL,rfl,T.cl,M1,F1,K6,B1,N0,fun p3 n3=>?_⟩;have s3:=af (o:=.tup [.str "]"]) n3;refine⟨a,l,ts,k+1+(eJ e).length,me,"]",p3,["]"],rfl,r2.same s3,UN.tl.r.hd,.inr (NL.of ac),JF,fun H4 r4 b4=>?_⟩;have WF:NX a H2 H4:=(bR s3).trans b4;refine⟨_,rfl,N0,fun p np=>?_⟩;have s5:=af (o:=.tup [.str "cell",u]) np;have K4:k+(eJ (.cell e)).length=k+1+(eJ e).length+1:=by
   show k+(("[":Str)::(eJ e++[("]":Str)])).length=_;simp;lia
  refine q _ _ (by rw[K4];exact r4.same s5) (((WW.trans b2).trans WF).same s5) ⟨p,u,rfl,ac,?_⟩;exact(v2.kt (WF.kt UL)).kt (ay s5)
def Ph:al [SY,SV,Tl,Th,"op",S4] [SY,SV,Tl] (ah ka):=bH zk
def mL(F:N1 K "read_two" "read_two" ka f fd)(T:pX P w K mg base C)(EX:Fn P w K mg base "read_expression" n [SY,SV,Tl] (kj C m))(OP:Fn P w K mg base "ops_told" 1 [] BA)(hn:3<=n):NN P w K mg base br (n+1) f fd [SY,SV,Tl] (qO C (m+1)):=by
 have ZZ:=Ph
 walk_at "o"
 ·obtain⟨a,l,ts,k,me,o,x,y,w,b,rfl,hb,hw,hR,hA,hop,hX,hY,q⟩:=h;have K6:NZ 2 _:=hr.mono zo;have K5:NZ 1 _:=hr.mono zo;refine⟨_,ae (aQ (aR (pv 0) (aa (av (aa aj ab)) ab)))
   (ae (bS (i:=3) Ph.nd (ap EX hr rfl (aa (pv 0) (aa (pv 1) (aa (pv 2) ab)))))
   (ae (bS (i:=4) Ph.nd (aR (pv 0) (aa (CZ OP K5 rfl) ab)))
   (ae (bS (i:=5) Ph.nd (ap EX hr rfl (aa (pv 0) (aa (pv 1) (aa (pv 2) ab)))))
   (ae (aQ (aR (pv 0) (aa (av (aa aj ab)) ab)))
   (ag (am (av (aa (pv 4) (aa (pv 3) (aa (pv 5) ab)))))))))),?_⟩
  obtain⟨f1,K7,M1,F1,B1⟩:=T.need;obtain⟨dx,ho⟩:=hR.ob;have UN:At ts k (("(":Str)::(eJ x++o::(eJ y++[(")":Str)]))):=hA;have VE:=UN.tl.r;refine⟨_,rfl,a,dx,C,f1,_,K7,2,[SN,Ti],_,rfl,ho,rfl,T.cl,M1,F1,K6,B1,N0,fun p1 n1=>?_⟩;have s1:=af (o:=.tup [.str "("]) n1;refine⟨a,l,ts,k,me,"(",p1,["("],rfl,hR.same s1,UN.hd,.inr (NL.of ac),JF,fun H1 r1 b1=>?_⟩;have WW:NX a H H1:=(bR s1).trans b1;refine⟨_,rfl,_,rfl,_,rfl,a,l,ts,k+1,me,x,w,b,rfl,hb,hw,r1,UN.tl.l,hX,fun u H2 r2 b2 v2=>?_⟩;obtain⟨U9,UL⟩:=r2.ob;refine⟨_,rfl,a,U9,C,f1,_,K7,2,[SN,Ti],_,rfl,UL,rfl,T.cl,M1,F1,K6,B1,rfl,fun p3 n3=>?_⟩;have s3:=af (o:=.lst (aJ ki)) n3;refine⟨a,l,ts,k+1+(eJ x).length,me,o,p3,ki,rfl,r2.same s3,VE.hd,.inl (NQ.of ac),hop,fun H4 r4 b4=>?_⟩;have WF:NX a H2 H4:=(bR s3).trans b4;have v4:=v2.kt (WF.kt UL);obtain⟨Wi,U5⟩:=r4.ob;refine⟨_,rfl,_,rfl,_,rfl,a,l,ts,k+1+(eJ x).length+1,me,y,w,b,rfl,hb,hw,r4,VE.tl.l,hY,fun t H5 r5 b5 v5=>?_⟩;obtain⟨WE,VD⟩:=r5.ob;refine⟨_,rfl,a,WE,C,f1,_,K7,2,[SN,Ti],_,rfl,VD,rfl,T.cl,M1,F1,K6,B1,N0,fun p6 n6=>?_⟩;have s6:=af (o:=.tup [.str ")"]) n6;refine⟨a,l,ts,k+1+(eJ x).length+1+(eJ y).length,me,")",p6,[")"],rfl,r5.same s6,VE.tl.r.hd,.inr (NL.of ac),JF,fun H7 r7 b7=>?_⟩;have b57:NX a H5 H7:=(bR s6).trans b7;refine⟨_,rfl,_,rfl,_,rfl,N0,fun p np=>?_⟩;have s8:=af (o:=.tup [.str o,u,t]) np;have K4:k+(eJ (.two o x y)).length=k+1+(eJ x).length+1+(eJ y).length+1:=by
   show k+(("(":Str)::(eJ x++o::(eJ y++[(")":Str)]))).length=_;simp;lia
  refine q _ _ (by rw[K4];exact r7.same s8) (((((WW.trans b2).trans WF).trans b5).trans b57).same s8) ⟨p,u,t,rfl,ac,?_,?_⟩
  ·exact((v4.kt (b5.kt U5)).kt (b57.kt VD)).kt (ay s8)
  ·exact(v5.kt (b57.kt VD)).kt (ay s8)
def QM:al [SY,SV,Tl,Uq] [SY,SV,Tl] (ah iN):=bH zk
def jB(F:N1 K "read_expression" "read_expression" iN f fd)(T:pX P w K mg base C)(Z:ZE mg t5)(NM:Fn P w K mg base "is_name" 1 [S6] xh)(CE:Fn P w K mg base "read_cell" n [SY,SV,Tl] (mJ C m))(TW:Fn P w K mg base "read_two" n [SY,SV,Tl] (qO C m))(hn:3<=n):NN P w K mg base br (n+1) f fd [SY,SV,Tl] (kj C m):=by
 have ZZ:=QM
 walk_at "o"
 ·obtain⟨a,l,ts,k,me,e,w,b,rfl,hb,hw,hR,hA,hE,q⟩:=h;have K5:NZ 1 _:=hr.mono zo;have VC:NZ 3 _:=hr.mono zo;refine⟨_,ae (bS (i:=3) QM.nd (aW (pv 0)))
   (ae (aM (j6 (fun _ H'=>H'=H/\∃x,e=.cell x) (fun _ H'=>H'=H/\∀x,e≠.cell x) (PW.pt (cr (ak dM (pv 2) (be (v:=.int 3) rfl Z.mb ⟨_,rfl⟩)) (cb (ak aY (pv 3) aj))))) (ag (am (ap CE hr rfl (aa (pv 0) (aa (pv 1) (aa (aX cA (pv 2) ai) ab)))))) aw)
   (ae (aM (j6 (fun _ H'=>H'=H/\∃o x y,e=.two o x y) (fun _ H'=>H'=H/\∀o x y,e≠.two o x y) (PW.pt (cr (ak dM (pv 2) (be (v:=.int 3) rfl Z.mb ⟨_,rfl⟩)) (cb (ak aY (pv 3) aj))))) (ag (am (ap TW hr rfl (aa (pv 0) (aa (pv 1) (aa (aX cA (pv 2) ai) ab)))))) aw)
   (ae (aM (bE (ap NM K5 rfl (aa (pv 3) ab))) (ag (am (av (aa aj (aa (aW (pv 0)) ab))))) aw)
   (ag (am (av (aa aj (aa (aR (pv 0) (aa ai (aa (aX iB (aX lX ai (pv 1)) ai) ab))) ab)))))))),?_⟩
  obtain⟨f1,K7,M1,F1,B1⟩:=T.look;obtain⟨f2,UZ,M2,F2,B2⟩:=T.take;obtain⟨f3,UY,M3,F3,B3⟩:=T.nnum;obtain⟨dx,ho⟩:=hR.ob;have hz:=Dg hA;refine⟨_,rfl,a,dx,C,f1,_,K7,1,[SN],_,rfl,ho,rfl,T.cl,M1,F1,K5,B1,a,l,ts,k,me,Af e,rfl,hR,hz,?_⟩;refine⟨?_,?_,?_⟩
  ·rintro H' ⟨rfl,x,rfl⟩;cases m with
   |zero=>exact absurd hE (by simp[fJ])
   |succ m=>
    refine⟨_,rfl,_,rfl,_,rfl,_,_,rfl,rfl,a,l,ts,k,me,x,w,b+1,rfl,zo,hw,hR,hA,hE,q⟩
  ·rintro H' ⟨rfl,hnc⟩;refine⟨?_,?_,?_⟩
   ·rintro H' ⟨rfl,o,x,y,rfl⟩;cases m with
    |zero=>exact absurd hE (by simp[fJ])
    |succ m=>
     obtain⟨h1,h2,h3⟩:=hE;exact⟨_,rfl,_,rfl,_,rfl,_,_,rfl,rfl,a,l,ts,k,me,o,x,y,w,b+1,rfl,zo,hw,hR,hA,h1,h2,h3,q⟩
   ·rintro H' ⟨rfl,WN⟩;cases e with
    |cell x=>exact absurd rfl (hnc x)
    |two o x y=>exact absurd rfl (WN o x y)
    |nm z=>
     have hN:bL z:=by cases m<;>exact hE
     have hS:=wS z;refine⟨_,rfl,z.cps.toList,i_ (fun x=>[V.str x]) hS,?_,fun H1 s1=>⟨_,rfl,bj (Df hN) ?_⟩⟩
     ·have zl:z.length=z.cps.toList.length:=by show z.cps.size=_;simp
      have:=hN.2.2.1;lia
     refine⟨_,rfl,a,dx,C,f2,_,UZ,1,[SN],_,rfl,s1 _ _ ho,rfl,T.cl,M2,F2,K5,B2,a,l,ts,k,me,z,rfl,hR.same s1,hz,fun H2 r2 b2=>?_⟩;refine⟨N0,fun p np=>?_⟩;have s3:=af (o:=.tup [.str "name",.str z]) np;exact q _ _ (r2.same s3) (((bR s1).trans b2).same s3) ⟨p,rfl,ac⟩
    |num i=>
     have hi:i<2^w:=by cases m<;>exact hE
     have h24:2^w<=2^24:=Nat.pow_le_pow_right zd hw;have hS:=fI i;refine⟨_,rfl,dg i,i_ (fun x=>[V.str x]) hS,?_,fun H1 s1=>⟨_,rfl,aN (FE i) ?_⟩⟩
     ·have:=(gN i).2 8 zd zo;lia
     have Ym:(1*2^((w:Int)).toNat-1:Int)=((2^w-1:Nat):Int):=by
      rw[Kq,Int.one_mul];have:0<2^w:=Nat.pow_pos zd;have e2:((2^w:Nat):Int)=(2:Int)^w:=by norm_cast
      lia
     refine⟨_,rfl,a,dx,C,f3,_,UY,3,[SN,Uf,Tr],_,rfl,s1 _ _ ho,rfl,T.cl,M3,F3,VC,B3,_,rfl,_,_,rfl,rfl,⟨zo,zo,zd⟩,_,_,rfl,rfl,a,l,ts,k,me,i,0,2^w-1,?_,hR.same s1,hz,zo,zo,zo,fun H2 r2 b2=>?_⟩
     ·show [V.ref a,V.int 0,V.int (1*2^((w:Int)).toNat-1)]=_;rw[Ym];rfl
     refine⟨N0,fun p np=>?_⟩;have s3:=af (o:=.tup [.str "number",.int (i:Nat)]) np;exact q _ _ (r2.same s3) (((bR s1).trans b2).same s3) ⟨p,rfl,ac⟩
   ·refine⟨_,rfl,_,_,rfl,rfl,_,rfl,?_⟩;by_cases ht:∃o x y,e=.two o x y
    ·obtain⟨o,x,y,rfl⟩:=ht;have hm:m≠0:=by
      rintro rfl;simp[fJ]at hE
     refine bj (b_ zo) ⟨_,rfl,rfl,_,rfl,bj (b_ rfl) ⟨rfl,o,x,y,rfl⟩⟩
    ·have WN:∀o x y,e≠.two o x y:=fun o x y h=>ht ⟨o,x,y,h⟩;refine eD (fun _=>⟨_,rfl,rfl,_,rfl,aN (d_ fun h=>xk hE WN (V.str.inj h)) ⟨rfl,WN⟩⟩) (fun _=>bJ ⟨rfl,WN⟩)
  ·refine⟨_,rfl,_,_,rfl,rfl,_,rfl,?_⟩;by_cases ht:∃x,e=.cell x
   ·obtain⟨x,rfl⟩:=ht;have hm:m≠0:=by
     rintro rfl;simp[fJ]at hE
    refine bj (b_ zo) ⟨_,rfl,rfl,_,rfl,bj (b_ rfl) ⟨rfl,x,rfl⟩⟩
   ·have WN:∀x,e≠.cell x:=fun x h=>ht ⟨x,h⟩;refine eD (fun _=>⟨_,rfl,rfl,_,rfl,aN (d_ fun h=>xj hE WN (V.str.inj h)) ⟨rfl,WN⟩⟩) (fun _=>bJ ⟨rfl,WN⟩)
end
def km:UD:=[SU,S2,"number",Tn]
structure qP(K:ZF)(mg:Str->Option Uw)(aS aE aF:Ux)(t1 t2 t3 t4:Tok):Prop where
 sorts:mg "SORTS"=some (.ref aS)
 sortsq:∀H,NL K H aS (aJ km)
 ends:mg "ENDS"=some (.ref aE)
 endsq:∀H,NL K H aE (aJ [To,Uh,S_,Ta,Tp,S3])
 owf:mg "OWN_FAULTS"=some (.ref aF)
 owfq:∀H,NL K H aF (aJ [T0,T7])
 mf:mg "MOST_FIELDS"=some (.int 3 t1)
 ms:mg "MOST_SETS"=some (.int 4 t2)
 mc:mg "MOST_CHOICES"=some (.int 3 t3)
 mkn:mg "MOST_KINDS"=some (.int 8 t4)
inductive Ot(H:Hp)(u:V)(x:Str×Str):Prop
 |mk(p:_):u=.ref p->H p=some (.tup [.str x.1,.str x.2])->Ot H u x
inductive mM(C:Ux)(vs:UG)(H:Hp)(Q:VK)(Z3:XK):Prop
 |mk(a l ts k me:_)(x:Str×Str):vs=[.ref a]->Oa C H a l ts k me->(tz ts)[k]?=some x.1->bL x.1->(tz ts)[k+1]?=some x.2->x.2∈km->(∀p H',Oa C H' a l ts (k+2) me->NX a H H'->H p=none->H' p=some (.tup [.str x.1,.str x.2])->Q (.ref p) H')->mM C vs H Q Z3
section
def h7(b:NX a H H')(ho:H' a=some (.ins C dx fs))(n:H' p=none):H p=none:=by
 by_cases h:p=a
 ·subst h;rw[ho]at n;cases n
 ·cases hx:H p with
  |none=>rfl
  |some o=>
   have:=b _ _ hx h;rw[n]at this;cases this
def Qh:al [SY,"name"] [SY] (ah gH):=bH zk
def xm(F:N1 K "read_field" "read_field" gH f fd)(T:pX P w K mg base C)(Z:qP K mg aS aE aF t1 t2 t3 t4):NN P w K mg base br 3 f fd [SY] (mM C):=by
 have ZZ:=Qh
 walk_at "o"
 ·obtain⟨a,l,ts,k,me,x,rfl,hR,h0,hn,h1,hs,q⟩:=h;refine⟨_,ae (bS (i:=1) Qh.nd (aW (pv 0))) (ag (am (av (aa (pv 1) (aa (aR (pv 0) (aa (be (v:=.ref aS) rfl Z.sorts rfl) ab)) ab))))),?_⟩;obtain⟨f1,K7,M1,F1,B1⟩:=T.need;obtain⟨f2,UZ,M2,F2,B2⟩:=T.nname;obtain⟨dx,ho⟩:=hR.ob;refine⟨_,rfl,a,dx,C,f2,_,UZ,2,[SN],_,rfl,ho,rfl,T.cl,M2,F2,hr,B2,a,l,ts,k,me,x.1,rfl,hR,h0,hn,fun H1 r1 b1=>?_⟩;obtain⟨U_,U4⟩:=r1.ob;refine⟨_,rfl,_,rfl,a,U_,C,f1,_,K7,2,[SN,Ti],_,rfl,U4,rfl,T.cl,M1,F1,hr,B1,a,l,ts,k+1,me,x.2,aS,km,rfl,r1,h1,.inr (Z.sortsq _),hs,fun H2 r2 b2=>?_⟩;obtain⟨U9,UL⟩:=r2.ob;refine⟨N0,fun p np=>?_⟩;have s3:=af (o:=.tup [.str x.1,.str x.2]) np;exact q p _ (r2.same s3) ((b1.trans b2).same s3) (h7 (b1.trans b2) UL np) ac
end
inductive ko(C:Ux)(vs:UG)(H:Hp)(Q:VK)(Z3:XK):Prop
 |mk(a l ts k me e:_):vs=[.ref a]->Oa C H a l ts k me->At ts k (oC e)->uL e->(∀v H',Oa C H' a l ts (k+(oC e).length) me->NX a H H'->Rh H' e v->Q v H')->ko C vs H Q Z3
inductive qQ(C:Ux)(vs:UG)(H:Hp)(Q:VK)(Z3:XK):Prop
 |mk(a l ts k me g:_)(w:Nat)(cf:Bool):vs=[.ref a,.int w,.bl cf]->w<=24->(g.isCell=true->cf=true)->Oa C H a l ts k me->At ts k (vN g)->Ae w g->(∀v H',Oa C H' a l ts (k+(vN g).length) me->NX a H H'->O5 H' g v->Q v H')->qQ C vs H Q Z3
inductive mN(C:Ux)(vs:UG)(H:Hp)(Q:VK)(Z3:XK):Prop
 |mk(a l ts k me s e:_)(w:Nat):vs=[.ref a,.int w]->w<=24->Oa C H a l ts k me->At ts k (bZ s++oC e)->jo w 0 (.leaf s e)->(∀v H',Oa C H' a l ts (k+(bZ s++oC e).length) me->NX a H H'->Qq H' (.leaf s e) v->Q v H')->mN C vs H Q Z3
def Rh.kt(k:N6 H H')(h:Rh H e v):Rh H' e v:=let⟨p,a,b⟩:=h;⟨p,a,k _ _ b⟩
def zj:En->Str
 |.w0 s=>s
 |.w1 s _=>s
def mO(h:uL e):zj e∈([To,Uh,S_,Ta,Tp,S3]:UD):=by
 cases e with
 |w0 s=>
  have h':s∈([To,Ta,Tp]:UD):=h;simp only[JT,Kj,O_]at h';show s∈_;rcases h' with rfl|rfl|rfl<;>decide +kernel
 |w1 s z=>
  have h':s∈([Uh,S_,S3]:UD):=h.1;simp only[JT,Kj,O_]at h';show s∈_;rcases h' with rfl|rfl|rfl<;>decide +kernel
def xn(h:At ts k (oC e)):(tz ts)[k]?=some (zj e):=by
 cases e with
 |w0 s=>exact h.hd
 |w1 s z=>exact h.hd
section
def Q5:al [SY,Uo] [SY] (ah j9):=bH zk
def Ag(F:N1 K "read_end" "read_end" j9 f fd)(T:pX P w K mg base C)(Z:qP K mg aS aE aF t1 t2 t3 t4):NN P w K mg base br 3 f fd [SY] (ko C):=by
 have ZZ:=Q5
 walk_at "o"
 ·obtain⟨a,l,ts,k,me,e,rfl,hR,hA,hE,q⟩:=h;refine⟨_,ae (bS (i:=1) Q5.nd (aR (pv 0) (aa (be (v:=.ref aE) rfl Z.ends rfl) ab)))
   (ae (aM (j6 (fun _ _=>False) (fun _ H'=>Oa C H' a l ts (k+1) me/\NX a H H') (PW.pt (cr (ak aY (pv 1) aj) (cb (ak bX (aW (pv 0)) (be (v:=.ref aF) rfl Z.owf rfl) rfl))))) (ag aU) aw)
   (ae (aM (ak bX (pv 1) (av (aa aj (aa aj (aa aj ab)))) rfl) (ag (am (av (aa (pv 1) (aa (aW (pv 0)) ab))))) aw)
   (ag (am (av (aa (pv 1) ab)))))),?_⟩
  obtain⟨f1,K7,M1,F1,B1⟩:=T.need;obtain⟨f2,UZ,M2,F2,B2⟩:=T.nname;obtain⟨f3,UY,M3,F3,B3⟩:=T.look;obtain⟨dx,ho⟩:=hR.ob;refine⟨_,rfl,a,dx,C,f1,_,K7,2,[SN,Ti],_,rfl,ho,rfl,T.cl,M1,F1,hr,B1,a,l,ts,k,me,zj e,aE,[To,Uh,S_,Ta,Tp,S3],rfl,hR,xn hA,.inr (Z.endsq _),mO hE,fun H1 r1 b1=>?_⟩;refine⟨fun _ z=>z.elim,?_,?_⟩
  ·rintro H2 ⟨r2,b2⟩;obtain⟨U9,UL⟩:=r2.ob;refine⟨_,rfl,N0,fun t3' n3=>?_⟩;have s3:=af (o:=.tup [.str Uh,.str S_,.str S3]) n3;have e3:kU (.str (zj e)) [.str Uh,.str S_,.str S3]=([Uh,S_,S3]:UD).contains (zj e):=cZ _ [Uh,S_,S3];refine⟨t3',_,rfl,.inr (NL.of ac),rfl,rfl,_,rfl,eD (fun h=>?_) (fun h=>?_)⟩
   ·have h':([Uh,S_,S3]:UD).contains (zj e)=true:=by rw[<-e3];exact h
    cases e with
    |w0 s=>
     exfalso;have h1:s∈([To,Ta,Tp]:UD):=hE;have h2:s∈([Uh,S_,S3]:UD):=J8.mp h';simp only[JT,Kj,O_]at h1;rcases h1 with rfl|rfl|rfl<;>revert h2<;>decide +kernel
    |w1 s z=>
     have UN:At ts k [s,z]:=hA;refine⟨_,rfl,_,rfl,a,U9,C,f2,_,UZ,2,[SN],_,rfl,s3 _ _ UL,rfl,T.cl,M2,F2,hr,B2,a,l,ts,k+1,me,z,rfl,r2.same s3,UN.tl.hd,hE.2.1,fun H4 r4 b4=>?_⟩;refine⟨N0,fun p np=>?_⟩;have s5:=af (o:=.tup [.str s,.str z]) np;exact q _ _ (r4.same s5) (((b2.same s3).trans b4).same s5) ⟨p,rfl,ac⟩
   ·have h':([Uh,S_,S3]:UD).contains (zj e)=false:=by rw[<-e3];exact KB.mpr h
    cases e with
    |w1 s z=>
     exfalso;have Wf:([Uh,S_,S3]:UD).contains s=false:=h';rw[J8.mpr hE.1]at Wf;cases Wf
    |w0 s=>
     refine⟨_,rfl,N0,fun p np=>?_⟩;have s5:=af (o:=.tup [.str s]) np;exact q _ _ ((r2.same s3).same s5) ((b2.same s3).same s5) ⟨p,rfl,ac⟩
  ·obtain⟨U_,U4⟩:=r1.ob;refine⟨_,rfl,rfl,_,rfl,eD (fun h=>?_) (fun h=>bJ ⟨r1,b1⟩)⟩;have hf:zj e=S3:=V.str.inj (j_ h);cases e with
   |w0 s=>
    exfalso;have h1:s∈([To,Ta,Tp]:UD):=hE;have h2:s=S3:=hf;rw[h2]at h1;revert h1;decide +kernel
   |w1 s z=>
    have UN:At ts k [s,z]:=hA;have hs:s=S3:=hf;have hz:=hE.2.2 hs;have e3:kU (.str z) (aJ [T0,T7])=([T0,T7]:UD).contains z:=cZ _ _;refine⟨_,rfl,a,U_,C,f3,_,UY,1,[SN],_,rfl,U4,rfl,T.cl,M3,F3,hr.m,B3,a,l,ts,k+1,me,z,rfl,r1,UN.tl.hd,aF,_,rfl,.inr (Z.owfq _),rfl,bu _,_,rfl,aN ?_ ⟨r1,b1⟩⟩;show kU (.str z) (aJ [T0,T7])=false;rw[e3];exact KB.mpr fun h=>hz (J8.mp h)
def Dj:Gs->UD
 |.cell a _=>("[":Str)::(eJ a++[("]":Str)])
 |.nm z _=>[z]
def uM:Gs->Ex
 |.cell _ e=>e
 |.nm _ e=>e
def xo(g:Gs):vN g=Dj g++("=":Str)::(eJ (uM g)++[(";":Str)]):=by
 cases g with
 |cell a e=>
  show("[":Str)::(eJ a++("]":Str)::("=":Str)::(eJ e++[(";":Str)]))=(("[":Str)::(eJ a++[("]":Str)]))++_;simp[uM]
 |nm z e=>rfl
def HdV(H:Hp)(g:Gs)(u:V):Prop:=match g with
 |.cell a _=>O7 H a u
 |.nm z _=>u=.str z
def HdV.kt(k:N6 H H')(h:HdV H g u):HdV H' g u:=by
 cases g with
 |cell a e=>exact O7.kt k h
 |nm z e=>exact h
def uN:Gs->Str
 |.cell _ _=>"cell"
 |.nm _ _=>"name"
def FJ(h:Ae w g):fJ w 3 (uM g):=by
 cases g with
 |cell a e=>exact h.2
 |nm z e=>exact h.2
def OH:al [SY,SV,T_,Tg,Td,S8] [SY,SV,T_] (ah j8):=bH zk
inductive xp(a:Ux)(w:Nat)(g:Gs)(C:Ux)(l:Ux)(ts:UD)(k:Nat)(me:Bool)(H:Hp)(σ:St)(H':Hp):Prop
 |mk(ug:_):σ=[some (.ref a),some (.int (w:Nat)),some (.bl cf),some (.str (uN g)),some ug,none]->Oa C H' a l ts (k+(Dj g).length) me->NX a H H'->HdV H' g ug->xp a w g C l ts k me H σ H'
def Ah(F:N1 K "read_set" "read_set" j8 f fd)(T:pX P w K mg base C)(EX:Fn P w K mg base "read_expression" n [SY,SV,Tl] (kj C 3))(hn:3<=n):NN P w K mg base br (n+1) f fd [SY,SV,T_] (qQ C):=by
 have ZZ:=OH
 walk_at "o"
 ·obtain⟨a,l,ts,k,me,g,w,cf,rfl,hw,hcf,hR,hA,hG,q⟩:=h;have K5:NZ 1 _:=hr.mono zo;have K6:NZ 2 _:=hr.mono zo;refine⟨_,dX (xp a w g C l ts k me H) (aM (j6 (fun _ H'=>H'=H/\g.isCell=true) (fun _ H'=>H'=H/\g.isCell=false) (PW.pt (cr (bE (pv 2)) (cb (ak aY (aW (pv 0)) aj)))))
     (ae (aQ (aW (pv 0))) (ae (bS (i:=3) OH.nd aj) (ae (bS (i:=4) OH.nd (ap EX hr rfl (aa (pv 0) (aa (pv 1) (aa ai ab))))) (ag (aQ (aR (pv 0) (aa (av (aa aj ab)) ab)))))))
     (ae (bS (i:=3) OH.nd aj) (ag (bS (i:=4) OH.nd (aW (pv 0))))))
   (ae (aQ (aR (pv 0) (aa (av (aa aj ab)) ab)))
   (ae (bS (i:=5) OH.nd (ap EX hr rfl (aa (pv 0) (aa (pv 1) (aa ai ab)))))
   (ae (aQ (aR (pv 0) (aa (av (aa aj ab)) ab)))
   (ag (am (av (aa (pv 3) (aa (pv 4) (aa (pv 5) ab))))))))),?_⟩
  obtain⟨f1,K7,M1,F1,B1⟩:=T.need;obtain⟨f2,UZ,M2,F2,B2⟩:=T.nname;obtain⟨f3,UY,M3,F3,B3⟩:=T.look;obtain⟨f4,Xd,M4,F4,B4⟩:=T.take;rw[xo]at hA;have VE:=hA.r;obtain⟨dx,ho⟩:=hR.ob;refine⟨?_,?_,?_,?_⟩
  ·rintro σ H1 ⟨ug,rfl,r1,b1,v1⟩;obtain⟨U_,U4⟩:=r1.ob;refine⟨_,rfl,a,U_,C,f1,_,K7,2,[SN,Ti],_,rfl,U4,rfl,T.cl,M1,F1,K6,B1,N0,fun p2 n2=>?_⟩;have s2:=af (o:=.tup [.str "="]) n2;refine⟨a,l,ts,k+(Dj g).length,me,"=",p2,["="],rfl,r1.same s2,VE.hd,.inr (NL.of ac),JF,fun H3 r3 b3=>?_⟩;have b13:NX a H1 H3:=(bR s2).trans b3;have v3:=v1.kt (b13.kt U4);obtain⟨Wa,Vo⟩:=r3.ob;refine⟨_,rfl,_,rfl,a,l,ts,k+(Dj g).length+1,me,uM g,w,0,rfl,rfl,hw,r3,VE.tl.l,FJ hG,fun t H4 r4 b4 v4=>?_⟩;have v4':=v3.kt (b4.kt Vo);obtain⟨Wi,U5⟩:=r4.ob;refine⟨_,rfl,a,Wi,C,f1,_,K7,2,[SN,Ti],_,rfl,U5,rfl,T.cl,M1,F1,K6,B1,N0,fun p5 n5=>?_⟩;have s5:=af (o:=.tup [.str ";"]) n5;refine⟨a,l,ts,k+(Dj g).length+1+(eJ (uM g)).length,me,";",p5,[";"],rfl,r4.same s5,VE.tl.r.hd,.inr (NL.of ac),JF,fun H6 r6 b6=>?_⟩;have b46:NX a H4 H6:=(bR s5).trans b6;refine⟨_,rfl,_,rfl,_,rfl,N0,fun p np=>?_⟩;have s7:=af (o:=.tup [.str (uN g),ug,t]) np;have XQ:N6 H4 (az H6 p (.tup [.str (uN g),ug,t])):=(b46.kt U5).trans (ay s7);have K4:k+(vN g).length=k+(Dj g).length+1+(eJ (uM g)).length+1:=by
    rw[xo];simp;lia
   refine q _ _ (by rw[K4];exact r6.same s7) ((((b1.trans b13).trans b4).trans b46).same s7) ?_;have vE:=O7.kt XQ v4;have vH:=v4'.kt XQ;cases g with
   |cell a' e'=>exact⟨p,ug,t,rfl,ac,vH,vE⟩
   |nm z e'=>
    have:ug=.str z:=v1;subst this;exact⟨p,t,rfl,ac,vE⟩
  ·rintro H1 ⟨rfl,hc⟩;cases g with
   |nm z e=>cases hc
   |cell a' e=>
    have UN:At ts k (("[":Str)::(eJ a'++[("]":Str)])):=hA.l;refine⟨_,rfl,a,dx,C,f4,_,Xd,1,[SN],_,rfl,ho,rfl,T.cl,M4,F4,K5,B4,a,l,ts,k,me,"[",rfl,hR,UN.hd,fun H2 r2 b2=>?_⟩;refine⟨_,rfl,_,rfl,a,l,ts,k+1,me,a',w,0,rfl,rfl,hw,r2,UN.tl.l,hG.1,fun u H3 r3 b3 v3=>?_⟩;obtain⟨Wa,Vo⟩:=r3.ob;refine⟨_,rfl,a,Wa,C,f1,_,K7,2,[SN,Ti],_,rfl,Vo,rfl,T.cl,M1,F1,K6,B1,N0,fun p5 n5=>?_⟩;have s5:=af (o:=.tup [.str "]"]) n5;refine⟨a,l,ts,k+1+(eJ a').length,me,"]",p5,["]"],rfl,r3.same s5,UN.tl.r.hd,.inr (NL.of ac),JF,fun H6 r6 b6=>?_⟩;have b36:NX a H3 H6:=(bR s5).trans b6;have K4:k+(Dj (.cell a' e)).length=k+1+(eJ a').length+1:=by
     show k+(("[":Str)::(eJ a'++[("]":Str)])).length=_;simp;lia
    exact⟨u,rfl,by rw[K4];exact r6,(b2.trans b3).trans b36,O7.kt (b36.kt Vo) v3⟩
  ·rintro H1 ⟨rfl,hc⟩;cases g with
   |cell a' e=>cases hc
   |nm z e=>
    have UN:At ts k [z]:=hA.l;refine⟨_,rfl,a,dx,C,f2,_,UZ,2,[SN],_,rfl,ho,rfl,T.cl,M2,F2,K6,B2,a,l,ts,k,me,z,rfl,hR,UN.hd,hG.1,fun H2 r2 b2=>?_⟩;exact⟨_,rfl,r2,b2,rfl⟩
  ·refine⟨_,rfl,cf,rfl,?_⟩;cases g with
   |cell a' e=>
    have UN:At ts k (("[":Str)::(eJ a'++[("]":Str)])):=hA.l;rw[hcf rfl];refine eQ ⟨_,rfl,a,dx,C,f3,_,UY,1,[SN],_,rfl,ho,rfl,T.cl,M3,F3,K5,B3,a,l,ts,k,me,"[",rfl,hR,UN.hd,rfl,_,rfl,bj (b_ rfl) ⟨rfl,rfl⟩⟩
   |nm z e=>
    have UN:At ts k [z]:=hA.l;refine eD (fun _=>?_) (fun _=>bJ ⟨rfl,rfl⟩);refine⟨_,rfl,a,dx,C,f3,_,UY,1,[SN],_,rfl,ho,rfl,T.cl,M3,F3,K5,B3,a,l,ts,k,me,z,rfl,hR,UN.hd,rfl,_,rfl,aN (d_ fun h=>?_) ⟨rfl,rfl⟩⟩;have h':=V.str.inj h;rw[Dh]at h';exact mK hG.1 (by simp) h'
end
section
variable{K:ZF}{X:Cx}
def pq(h:X.K=K):Co X (Cp K):=by subst h;exact b9
def ia(h:X.K=K):Co X (Cq K):=by subst h;exact ar
def xq(h:X.K=K):cH X (.builtin "len") (fun xs H Q=>∃p ys,xs=[.ref p]/\(NQ K H p ys\/NL K H p ys)/\Q (.int ys.length) H):=by subst h;exact aH
def bf{α:Type}{x:α}{r:List α}:sF (x::r) 0=some x:=bD (j:=0) (xs:=x::r) rfl
def cn{α:Type}{x y:α}{r:List α}:sF (x::y::r) 1=some y:=bD (j:=1) (xs:=x::y::r) rfl
def ic{α:Type}{x y z:α}{r:List α}:sF (x::y::z::r) 2=some z:=bD (j:=2) (xs:=x::y::z::r) rfl
def HN{α:Type}{x y z u:α}{r:List α}:sF (x::y::z::u::r) 3=some u:=bD (j:=3) (xs:=x::y::z::u::r) rfl
def ff{α β:Type}{R:α->β->Prop}{x:α}{y:β}(h:R x y):∀{xs:List α}{ys:List β},Paired R xs ys->Paired R (xs++[x]) (ys++[y])
 |_,_,.nil=>.cons h .nil
 |_,_,.cons a b=>.cons a (ff h b)
def bW{α β:Type}{R R':α->β->Prop}(f:∀x y,R x y->R' x y):∀{xs:List α}{ys:List β},Paired R xs ys->Paired R' xs ys
 |_,_,.nil=>.nil
 |_,_,.cons a b=>.cons (f _ _ a) (bW f b)
def mP{α β:Type}{R:α->β->Prop}:∀{xs:List α}{ys:List β},Paired R xs ys->∀{i:Nat}{x:α},xs[i]?=some x->∃y,ys[i]?=some y/\R x y
 |_,_,.cons h t,0,x,e=>by
  simp at e;exact⟨_,rfl,e▸h⟩
 |_,_,.cons h t,i+1,x,e=>by
  obtain⟨y,a,b⟩:=mP t (i:=i) (x:=x) (by simpa using e);exact⟨y,by simpa using a,b⟩
variable{H:Hp}
def sW{l:Ux}{xs ys:UG}(e:H l=some (.lst xs)):N6 H (az H l (.lst ys)):=CM e
def Qq.kt{H H':Hp}(k:N6 H H'):∀{b:Bd}{v:V},Qq H b v->Qq H' b v
 |.leaf _ _,_,⟨p,q,us,u,a,b,c,d,e⟩=>⟨p,q,us,u,a,k _ _ b,k _ _ c,bW (fun _ _ h=>O5.kt k h) d,e.kt k⟩
 |.ite _ _ _ _,_,⟨p,u,x,y,a,b,⟨t,c,c'⟩,d,e⟩=>⟨p,u,x,y,a,k _ _ b,⟨t,c,k _ _ c'⟩,Qq.kt k d,Qq.kt k e⟩
def fK(t:Bool)(z:Str):UD:=if t then [T9,z]else [z]
def Ai:Bd->UD
 |.leaf s e=>bZ s++oC e
 |.ite t z y n=>(Ut:Str)::(fK t z++(iw y++(Uk:Str)::iw n))
def xr(b:Bd):iw b=("{":Str)::(Ai b++[("}":Str)]):=by
 cases b with
 |leaf s e=>simp[iw,Ai]
 |ite t z y n=>simp[iw,Ai,fK]
inductive mQ(C:Ux)(vs:UG)(H:Hp)(Q:VK)(Z3:XK):Prop
 |mk(a l ts k me t z:_):vs=[.ref a]->Oa C H a l ts k me->At ts k (fK t z)->bL z->(∀v H',Oa C H' a l ts (k+(fK t z).length) me->NX a H H'->OX H' t z v->Q v H')->mQ C vs H Q Z3
inductive jC(C:Ux)(m:Nat)(vs:UG)(H:Hp)(Q:VK)(Z3:XK):Prop
 |mk(a l ts k me b:_)(w c:Nat):vs=[.ref a,.int w,.int c]->c+m=3->w<=24->Oa C H a l ts k me->At ts k (iw b)->jo w m b->(∀v H',Oa C H' a l ts (k+(iw b).length) me->NX a H H'->Qq H' b v->Q v H')->jC C m vs H Q Z3
inductive kq(C:Ux)(m:Nat)(vs:UG)(H:Hp)(Q:VK):Prop
 |mk(a l ts k me t z y n:_)(w c:Nat):vs=[.ref a,.int w,.int c]->c+m=3->w<=24->Oa C H a l ts k me->At ts k (Ai (.ite t z y n))->bL z->jo w m y->jo w m n->(∀v H',Oa C H' a l ts (k+(Ai (.ite t z y n)).length) me->NX a H H'->Qq H' (.ite t z y n) v->Q v H')->kq C m vs H Q
def iV(C:Ux):Nat->Sp
 |0=>hZ
 |m+1=>fun vs H Q _=>kq C m vs H Q
def iX:∀a b:List Gs,bZ (a++b)=bZ a++bZ b
 |[],_=>rfl
 |g::r,b=>by
  show("set":Str)::(vN g++bZ (r++b))=(("set":Str)::(vN g++bZ r))++bZ b;rw[iX r b];simp
variable{v:V}
def O5.at{g:Gs}(h:O5 H g v):∃p r,v=.ref p/\H p=some (.tup (.str (uN g)::r)):=by
 cases g with
 |cell a e=>obtain⟨p,u,t,a,b,_⟩:=h;exact⟨p,_,a,b⟩
 |nm z e=>obtain⟨p,t,a,b,_⟩:=h;exact⟨p,_,a,b⟩
def xt(g:Gs):(!decide (V.str (uN g)=V.str "cell"))=!g.isCell:=by
 cases g with
 |cell a e=>rw[b_ (show V.str (uN (.cell a e))=V.str "cell" from rfl)];rfl
 |nm z e=>rw[d_ (fun h=>absurd (V.str.inj h) (by show("name":Str)≠"cell";decide +kernel))];rfl
variable{e:En}
def uO(h:uL e):zj e≠"set":=by
 have:=mO h;intro hs;rw[hs]at this;revert this;decide +kernel
variable{P:Uz}{w:UA}{K:ZF}{mg:Str->Option Uw}{base:Heap}{C fi aS aE aF aO:Ux}{t1 t2 t3 t4 t5 tM:Tok}
def PZ:al [SY,SV,TB,T_] [SY,SV] (ah fY):=bH zk
def Aj:([Td]:UD).Nodup:=by decide +kernel
variable{n:Nat}{fd:UC}{f:Ux}
def xu(F:N1 K "read_leaf" "read_leaf" fY f fd)(T:pX P w K mg base C)(Z:qP K mg aS aE aF t1 t2 t3 t4)(B:Bl mg)(SR:Fn P w K mg base "read_set" n [SY,SV,T_] (qQ C))(EN:Fn P w K mg base "read_end" 3 [SY] (ko C))(hn:3<=n):NN P w K mg base br (n+1) f fd [SY,SV] (mN C):=by
 have ZZ:=PZ
 walk_at "o"
 ·obtain⟨a,l,ts,k,me,s,e,w,rfl,hw,hR,hA,⟨h4,hG,hU,hE⟩,q⟩:=h;have K5:NZ 1 _:=hr.mono zo;have VC:NZ 3 _:=hr.mono zo;have sz:(1000:Nat)<=sizeLine:=by decide
  refine⟨_,ae (bS (i:=2) PZ.nd (bF ab))
   (ae (df f_ (PW.pt (cr (ak dM (au aH (by rfl) B.len JI (aa (pv 2) ab)) (be (v:=.int 4) rfl Z.ms ⟨_,rfl⟩)) (cb (ak aY (aW (pv 0)) aj))))
    (ae (aQ (aW (pv 0)))
    (ae (bS (i:=3) PZ.nd (au (cY rfl) (by rfl) B.all cG (aa (cI (N':=[Td]) (ix:=[none]) (sc0:=ah fY) (N:=[SY,SV,TB,T_]) rfl zk (bV (pv 2)) (fun C' cl s H fp=>bM (i:=0) Aj) (fun _ _ _ _ _=>bz) (fun C' cl s H fp=>bK fb (ax (ia (K:=K) rfl) (pv 0) ai) aj (qd _))) ab)))
    (ag (aQ (fe J7 J1 J0 cg (pv 2) (aa (ap SR hr rfl (aa (pv 0) (aa (pv 1) (aa (pv 3) ab)))) ab)))))))
   (ag (am (av (aa aj (aa (aV bh (by rfl) B.tuple aZ (aa (pv 2) ab)) (aa (ap EN VC rfl (aa (pv 0) ab)) ab))))))),?_⟩
  obtain⟨f3,UY,M3,F3,B3⟩:=T.look;obtain⟨f4,Xd,M4,F4,B4⟩:=T.take;obtain⟨dx,ho⟩:=hR.ob;refine⟨N0,fun ln nn=>?_⟩;generalize zz:az H ln _=H1;have⟨s1,e1⟩:=nw nn zz;clear zz;have Wr:ln≠a:=fun z=>by rw[z,ho]at nn;cases nn
  have Zc:l≠ln:=aI hR.tk nn;refine⟨fun m σ H'=>∃(i:Nat)(v3:Option V)(us:UG),i<=s.length/\m=s.length-i/\σ=[some (.ref a),some (.int (w:Nat)),some (.ref ln),v3]/\Oa C H' a l ts (k+(bZ (s.take i)).length) me/\NX a H H'/\H' ln=some (.lst us)/\us.length=i/\Paired (fun v g=>O5 H' g v) us (s.take i),⟨_,0,none,[],JN _,rfl,rfl,hR.same s1,bR s1,e1,rfl,.nil⟩,?_⟩;rintro m σ H2 ⟨i,v3,us,hi,rfl,rfl,r2,b2,e2,lu,K9⟩;obtain⟨U9,UL⟩:=r2.ob;refine⟨_,rfl,ln,_,rfl,.inl (NQ.of e2),_,_,rfl,rfl,_,rfl,?_⟩;by_cases Ld:i<s.length
  ·have hg:s[i]?=some s[i]:=Kd Ld;generalize hgg:s[i]=g at*;have hgm:g∈s:=JP hg;have Wh:s.take (i+1)=s.take i++[g]:=by rw[Kh,hg];rfl
   have esp:bZ s=bZ (s.take i)++(("set":Str)::(vN g++bZ (s.drop (i+1)))):=by
    have:s=s.take i++(g::s.drop (i+1)):=by
     have h':=(Kw i s).symm;rw[Ka Ld,hgg]at h';exact h'
    conv=>lhs;rw[this,iX]
    rfl
   have hAs:At ts (k+(bZ (s.take i)).length) (("set":Str)::(vN g++bZ (s.drop (i+1)))):=by
    have:=hA.l;rw[esp]at this;exact this.r
   refine bj (b_ (by rw[lu];lia)) ?_;refine⟨_,rfl,a,U9,C,f3,_,UY,1,[SN],_,rfl,UL,rfl,T.cl,M3,F3,K5,B3,a,l,ts,_,me,"set",rfl,r2,hAs.hd,rfl,_,rfl,bj (b_ rfl) ?_⟩;refine⟨fun σ' H'=>∃(v3:Option V)(us:UG),σ'=[some (.ref a),some (.int (w:Nat)),some (.ref ln),v3]/\Oa C H' a l ts (k+(bZ (s.take (i+1))).length) me/\NX a H H'/\H' ln=some (.lst us)/\us.length=i+1/\Paired (fun v g=>O5 H' g v) us (s.take (i+1)),fun σ' H'⟨v3,us,a1,a2,a3,a4,a5,a6⟩=>⟨s.length-(i+1),zo,i+1,v3,us,Ld,rfl,a1,a2,a3,a4,a5,a6⟩,?_⟩;refine⟨_,rfl,a,U9,C,f4,_,Xd,1,[SN],_,rfl,UL,rfl,T.cl,M4,F4,K5,B4,a,l,ts,_,me,"set",rfl,r2,hAs.hd,fun H3 r3 b3=>?_⟩;have k23:=b3.kt UL;have e3:=b3 _ _ e2 Wr;have YQ:=bW (fun _ _ h=>O5.kt k23 h) K9;refine⟨_,rfl,ln,rfl,⟨_,NQ.of e3⟩,?_⟩;refine db (K:=K) (a:=ln) (xs:=us) (fun j ys H'=>H'=H3/\ys=(((s.take i).take j).map fun g=>!g.isCell).map V.bl) ⟨rfl,rfl⟩ (fun j ys H' hj⟨a1,a2⟩=>by
     subst a1 a2;refine⟨NQ.of e3,?_⟩;rw[JC,JC,JU,JU];lia) ?_ ?_
   ·rintro j u ys H' hu ⟨rfl,rfl⟩;obtain⟨y,hy,hv⟩:=mP YQ hu;obtain⟨p,r,rfl,hp⟩:=hv.at;refine⟨trivial,bC ?_⟩;refine⟨_,rfl,p,_,_,_,rfl,rfl,NL.of hp,bf,rfl,?_⟩;rw[xt];refine Nx.mk (JA.mp hu).1 ⟨rfl,?_⟩;rw[Kh (l:=s.take i),hy,JR,JR];rfl
   rintro ys H' ⟨rfl,rfl⟩ lq Za;have eta:(s.take i).take us.length=s.take i:=KL (by rw[JU];lia);rw[eta];have s4:=af (o:=.lst (((s.take i).map fun g=>!g.isCell).map V.bl)) Za;refine⟨lq,_,rfl,NQ.of ac,?_⟩;have e4:=s4 _ _ e3;have r4:=r3.same s4;have hus4:=bW (fun _ _ h=>O5.kt (ay s4) h) YQ;generalize az H' lq (.lst (((s.take i).map fun g=>!g.isCell).map V.bl))=H4 at*;have hcf:g.isCell=true->((s.take i).map fun g=>!g.isCell).all id=true:=by
    intro hc;rw[Sr,Ki];intro x hx;obtain⟨jj,hj⟩:=List.getElem?_of_mem hx;have hjl:jj<(s.take i).length:=(JA.mp hj).1;rw[JU]at hjl;rw[SL zo]at hj;show(!x.isCell)=true;cases hxc:x.isCell with
    |false=>rfl
    |true=>
     have:=hU jj i x g hj hg hxc hc;lia
   have WF:NX a H2 H4:=b3.same s4;refine⟨_,rfl,.inl ⟨rfl,_,NQ.of e4⟩,_,rfl,_,rfl,_,rfl,a,l,ts,k+(bZ (s.take i)).length+1,me,g,w,_,rfl,hw,hcf,r4,hAs.tl.l,hG g hgm,fun v5 H5 r5 b5 ZI=>?_⟩;obtain⟨Wi,U5⟩:=r4.ob;have e5:=b5 _ _ e4 Wr;have Zd:=b5.kt U5;refine⟨ln,us,_,rfl,rfl,e5,zo,?_⟩;have k6:=sW (ys:=us++[v5]) e5;obtain⟨WE,VD⟩:=r5.ob;have K4:k+(bZ (s.take (i+1))).length=k+(bZ (s.take i)).length+1+(vN g).length:=by
    rw[Wh,iX];show k+(bZ (s.take i)++(("set":Str)::(vN g++[]))).length=_;simp;lia
   refine⟨_,us++[v5],rfl,?_,?_,ac,by simp[lu],?_⟩
   ·rw[K4];refine⟨⟨WE,by rw[ao (R0 Wr)];exact VD⟩,by rw[ao Zc];exact r5.tk,r5.le⟩
   ·intro b o eb nb;rw[ao (aI eb nn)];exact b5 _ _ (WF _ _ (b2 _ _ eb nb) nb) nb
   ·rw[Wh];exact ff (R:=fun v g=>O5 (az H5 ln (.lst (us++[v5]))) g v) (O5.kt k6 ZI) (bW (R:=fun v g=>O5 H4 g v) (fun _ _ h=>O5.kt k6 (O5.kt Zd h)) hus4)
  ·have Xa:i=s.length:=by lia
   subst Xa;rw[Kg]at K9 r2;have XX:At ts (k+(bZ s).length) (oC e):=hA.r;have P':ko C [.ref a] H2 (fun X3 H3=>Q X3 H3) E0->True:=fun _=>trivial;have cont:∀H3,H3=H2->(∃p ys,[V.ref ln]=[.ref p]/\((NQ K H3 p ys/\∀t,H3 t=none->ko C [.ref a] (az H3 t (.tup ys)) (fun v4 H4=>3<=sizeLine/\∀p,H4 p=none->Q (.ref p) (az H4 p (.tup [.str TD,.ref t,v4]))) E0)\/(NL K H3 p ys/\False))):=by
    rintro H3 rfl;refine⟨ln,us,rfl,.inl ⟨NQ.of e2,fun t nt=>?_⟩⟩;generalize zz:az H3 t _=H4;have s3:=(nw nt zz).1;have e3:H4 t=some (.tup us):=(nw nt zz).2;clear zz;have Vo:=s3 _ _ UL;refine⟨a,l,ts,_,me,e,rfl,r2.same s3,XX,hE,fun v5 H5 r5 b5 ZI=>⟨N0,fun p np=>?_⟩⟩;have s6:=af (o:=.tup [.str TD,.ref t,v5]) np;have Zd:=b5.kt Vo;have K4:k+(bZ s++oC e).length=k+(bZ s).length+(oC e).length:=by
     rw[JH];lia
    refine q _ _ (by rw[K4];exact r5.same s6) (((b2.same s3).trans b5).same s6) ⟨p,t,us,v5,rfl,ac,s6 _ _ (Zd _ _ e3),bW (fun _ _ h=>O5.kt (ay s6) (O5.kt Zd (O5.kt (ay s3) h))) K9,ZI.kt (ay s6)⟩
   refine eD (fun _=>?_) (fun _=>bJ ?_)
   ·refine⟨_,rfl,a,U9,C,f3,_,UY,1,[SN],_,rfl,UL,rfl,T.cl,M3,F3,K5,B3,a,l,ts,_,me,zj e,rfl,r2,xn XX,rfl,_,rfl,aN (d_ fun h=>uO hE (V.str.inj h)) ?_⟩;obtain⟨p,ys,h1,h2⟩:=cont H2 rfl;rcases h2 with⟨h2,h3⟩|⟨_,h3⟩
    ·exact⟨_,rfl,p,ys,h1,.inl ⟨h2,fun t nt=>⟨_,rfl,h3 t nt⟩⟩⟩
    ·exact h3.elim
   ·obtain⟨p,ys,h1,h2⟩:=cont H2 rfl;rcases h2 with⟨h2,h3⟩|⟨_,h3⟩
    ·exact⟨_,rfl,p,ys,h1,.inl ⟨h2,fun t nt=>⟨_,rfl,h3 t nt⟩⟩⟩
    ·exact h3.elim
def Ak:al [SY] [SY] (ah iM):=bH zk
def xw(F:N1 K "read_test" "read_test" iM f fd)(T:pX P w K mg base C):NN P w K mg base br 3 f fd [SY] (mQ C):=by
 have ZZ:=Ak
 walk_at "o"
 ·obtain⟨a,l,ts,k,me,t,z,rfl,hR,hA,hN,q⟩:=h;refine⟨_,ae (aM (ak aY (aW (pv 0)) aj) (ag (am (av (aa (aW (pv 0)) (aa (aW (pv 0)) ab))))) aw)
   (ag (am (av (aa aj (aa (aW (pv 0)) ab))))),?_⟩
  obtain⟨f2,UZ,M2,F2,B2⟩:=T.nname;obtain⟨f3,UY,M3,F3,B3⟩:=T.look;obtain⟨f4,Xd,M4,F4,B4⟩:=T.take;obtain⟨dx,ho⟩:=hR.ob;cases t with
  |true=>
   have UN:At ts k [(T9:Str),z]:=hA;refine⟨_,rfl,a,dx,C,f3,_,UY,1,[SN],_,rfl,ho,rfl,T.cl,M3,F3,hr.m,B3,a,l,ts,k,me,T9,rfl,hR,UN.hd,rfl,_,rfl,bj (b_ rfl) ?_⟩;refine⟨_,rfl,a,dx,C,f4,_,Xd,1,[SN],_,rfl,ho,rfl,T.cl,M4,F4,hr.m,B4,a,l,ts,k,me,T9,rfl,hR,UN.hd,fun H1 r1 b1=>?_⟩;obtain⟨U_,U4⟩:=r1.ob;refine⟨_,rfl,a,U_,C,f2,_,UZ,2,[SN],_,rfl,U4,rfl,T.cl,M2,F2,hr,B2,a,l,ts,k+1,me,z,rfl,r1,UN.tl.hd,hN,fun H2 r2 b2=>⟨N0,fun p np=>?_⟩⟩;have s3:=af (o:=.tup [.str T9,.str z]) np;exact q _ _ (r2.same s3) ((b1.trans b2).same s3) ⟨p,rfl,ac⟩
  |false=>
   have UN:At ts k [z]:=hA;have La:z≠T9:=fun e=>by
    have:=hN.1;rw[e]at this;exact this zk
   refine⟨_,rfl,a,dx,C,f3,_,UY,1,[SN],_,rfl,ho,rfl,T.cl,M3,F3,hr.m,B3,a,l,ts,k,me,z,rfl,hR,UN.hd,rfl,_,rfl,aN (d_ fun h=>La (V.str.inj h)) ?_⟩;refine⟨_,rfl,a,dx,C,f2,_,UZ,2,[SN],_,rfl,ho,rfl,T.cl,M2,F2,hr,B2,a,l,ts,k,me,z,rfl,hR,UN.hd,hN,fun H2 r2 b2=>⟨N0,fun p np=>?_⟩⟩;have s3:=af (o:=.tup [.str Ut,.str z]) np;exact q _ _ (r2.same s3) (b2.same s3) ⟨p,rfl,ac⟩
def OC:al [SY,SV,TH,Uc,"yes"] [SY,SV,TH] (ah fF):=bH zk
def OX.kt{H H':Hp}(k:N6 H H'){t:Bool}{z:Str}(h:OX H t z v):OX H' t z v:=let⟨p,a,b⟩:=h;⟨p,a,k _ _ b⟩
variable{m:Nat}
def gO(F:N1 K "read_choice" "read_choice" fF f fd)(T:pX P w K mg base C)(TE':Fn P w K mg base "read_test" 3 [SY] (mQ C))(BD:Fn P w K mg base "read_body" n [SY,SV,TH] (jC C m))(hn:3<=n):NN P w K mg base br (n+1) f fd [SY,SV,TH] (iV C (m+1)):=by
 have ZZ:=OC
 walk_at "o"
 ·obtain⟨a,l,ts,k,me,t,z,y,n',w,c,rfl,hc,hw,hR,hA,hN,hY,hM,q⟩:=h;have K6:NZ 2 _:=hr.mono zo;have VC:NZ 3 _:=hr.mono zo;refine⟨_,ae (aQ (aR (pv 0) (aa (av (aa aj ab)) ab)))
   (ae (bS (i:=3) OC.nd (ap TE' VC rfl (aa (pv 0) ab)))
   (ae (bS (i:=4) OC.nd (ap BD hr rfl (aa (pv 0) (aa (pv 1) (aa (pv 2) ab)))))
   (ae (aQ (aR (pv 0) (aa (av (aa aj ab)) ab)))
   (ag (am (av (aa aj (aa (pv 3) (aa (pv 4) (aa (ap BD hr rfl (aa (pv 0) (aa (pv 1) (aa (pv 2) ab)))) ab)))))))))),?_⟩
  obtain⟨f1,K7,M1,F1,B1⟩:=T.need;obtain⟨dx,ho⟩:=hR.ob;have UN:At ts k ((Ut:Str)::(fK t z++(iw y++(Uk:Str)::iw n'))):=hA;have VE:=UN.tl.r;have Zo:=VE.r;refine⟨_,rfl,a,dx,C,f1,_,K7,2,[SN,Ti],_,rfl,ho,rfl,T.cl,M1,F1,K6,B1,N0,fun p1 n1=>?_⟩;have s1:=af (o:=.tup [.str Ut]) n1;refine⟨a,l,ts,k,me,Ut,p1,[Ut],rfl,hR.same s1,UN.hd,.inr (NL.of ac),JF,fun H1 r1 b1=>?_⟩;have WW:NX a H H1:=(bR s1).trans b1;refine⟨_,rfl,a,l,ts,k+1,me,t,z,rfl,r1,UN.tl.l,hN,fun u H2 r2 b2 v2=>?_⟩;obtain⟨U9,UL⟩:=r2.ob;refine⟨_,rfl,_,rfl,_,rfl,a,l,ts,k+1+(fK t z).length,me,y,w,c,rfl,hc,hw,r2,VE.l,hY,fun x H3 r3 b3 v3=>?_⟩;obtain⟨Wa,Vo⟩:=r3.ob;refine⟨_,rfl,a,Wa,C,f1,_,K7,2,[SN,Ti],_,rfl,Vo,rfl,T.cl,M1,F1,K6,B1,N0,fun p4 n4=>?_⟩;have s4:=af (o:=.tup [.str Uk]) n4;refine⟨a,l,ts,k+1+(fK t z).length+(iw y).length,me,Uk,p4,[Uk],rfl,r3.same s4,Zo.hd,.inr (NL.of ac),JF,fun H5 r5 b5=>?_⟩;have b35:NX a H3 H5:=(bR s4).trans b5;obtain⟨WE,VD⟩:=r5.ob;refine⟨_,rfl,_,rfl,_,rfl,_,rfl,_,rfl,a,l,ts,k+1+(fK t z).length+(iw y).length+1,me,n',w,c,rfl,hc,hw,r5,Zo.tl,hM,fun x2 H6 r6 b6 v6=>⟨N0,fun p np=>?_⟩⟩;have s7:=af (o:=.tup [.str Ut,u,x,x2]) np;have XQ:=ay s7;have k56:=b6.kt VD;have k35:=b35.kt Vo;have K4:k+(Ai (.ite t z y n')).length=k+1+(fK t z).length+(iw y).length+1+(iw n').length:=by
   show k+((Ut:Str)::(fK t z++(iw y++(Uk:Str)::iw n'))).length=_;simp;lia
  refine q _ _ (by rw[K4];exact r6.same s7) (((((WW.trans b2).trans b3).trans b35).trans b6).same s7) ⟨p,u,x,x2,rfl,ac,?_,?_,?_⟩
  ·exact((((v2.kt (b3.kt UL)).kt k35).kt k56).kt XQ)
  ·exact((v3.kt k35).kt k56).kt XQ
  ·exact v6.kt XQ
def Pb:al [SY,SV,TH,Ur] [SY,SV,TH] (ah iL):=bH zk
def sX{w m:Nat}{s:List Gs}(h:jo w m (.leaf s e)):jo w 0 (.leaf s e):=by cases m<;>exact h
inductive xy(a:Ux)(w:Nat)(c:Ux)(C:Ux)(l:Ux)(ts:UD)(k:Nat)(b:Bd)(me:Bool)(H:Hp)(σ:St)(H':Hp):Prop
 |mk(u:_):σ=[some (.ref a),some (.int (w:Nat)),some (.int (c:Nat)),some u]->Oa C H' a l ts (k+1+(Ai b).length) me->NX a H H'->Qq H' b u->xy a w c C l ts k b me H σ H'
def ie(F:N1 K "read_body" "read_body" iL f fd)(T:pX P w K mg base C)(Z:qP K mg aS aE aF t1 t2 t3 t4)(CH:Fn P w K mg base "read_choice" n [SY,SV,TH] (iV C m))(LF:Fn P w K mg base "read_leaf" n [SY,SV] (mN C))(hn:3<=n):NN P w K mg base br (n+1) f fd [SY,SV,TH] (jC C m):=by
 have ZZ:=Pb
 walk_at "o"
 ·obtain⟨a,l,ts,k,me,b,w,c,rfl,hc,hw,hR,hA,hB,q⟩:=h;have K5:NZ 1 _:=hr.mono zo;have K6:NZ 2 _:=hr.mono zo;refine⟨_,ae (aQ (aR (pv 0) (aa (av (aa aj ab)) ab)))
   (dX (xy a w c C l ts k b me H) (aM (j6 (fun _ H'=>(Oa C H' a l ts (k+1) me/\NX a H H')/\∃t z y n,b=.ite t z y n) (fun _ H'=>(Oa C H' a l ts (k+1) me/\NX a H H')/\∃s e,b=.leaf s e) (PW.pt (cr (ak dM (pv 2) (be (v:=.int 3) rfl Z.mc ⟨_,rfl⟩)) (cb (ak aY (aW (pv 0)) aj)))))
     (ag (bS (i:=3) Pb.nd (ap CH hr rfl (aa (pv 0) (aa (pv 1) (aa (aX cA (pv 2) ai) ab))))))
     (ag (bS (i:=3) Pb.nd (ap LF hr rfl (aa (pv 0) (aa (pv 1) ab))))))
   (ae (aQ (aR (pv 0) (aa (av (aa aj ab)) ab)))
   (ag (am (pv 3))))),?_⟩
  obtain⟨f1,K7,M1,F1,B1⟩:=T.need;obtain⟨f3,UY,M3,F3,B3⟩:=T.look;obtain⟨dx,ho⟩:=hR.ob;rw[xr]at hA;have VE:=hA.tl;refine⟨_,rfl,a,dx,C,f1,_,K7,2,[SN,Ti],_,rfl,ho,rfl,T.cl,M1,F1,K6,B1,N0,fun p1 n1=>?_⟩;have s1:=af (o:=.tup [.str "{"]) n1;refine⟨a,l,ts,k,me,"{",p1,["{"],rfl,hR.same s1,hA.hd,.inr (NL.of ac),JF,fun H1 r1 b1=>?_⟩;have WW:NX a H H1:=(bR s1).trans b1;refine⟨?_,?_,?_,?_⟩
  ·rintro σ H2 ⟨u,rfl,r2,b2,v2⟩;obtain⟨U9,UL⟩:=r2.ob;refine⟨_,rfl,a,U9,C,f1,_,K7,2,[SN,Ti],_,rfl,UL,rfl,T.cl,M1,F1,K6,B1,N0,fun p3 n3=>?_⟩;have s3:=af (o:=.tup [.str "}"]) n3;refine⟨a,l,ts,k+1+(Ai b).length,me,"}",p3,["}"],rfl,r2.same s3,VE.r.hd,.inr (NL.of ac),JF,fun H4 r4 b4=>?_⟩;have WF:NX a H2 H4:=(bR s3).trans b4;have K4:k+(iw b).length=k+1+(Ai b).length+1:=by
    rw[xr];simp;lia
   exact⟨_,rfl,q _ _ (by rw[K4];exact r4) (b2.trans WF) (v2.kt (WF.kt UL))⟩
  ·rintro H2 ⟨⟨r2,b2⟩,t,z,y,n',rfl⟩;cases m with
   |zero=>exact absurd hB (by simp[jo])
   |succ m=>
    obtain⟨h1,h2,h3⟩:=hB;refine⟨_,rfl,_,rfl,_,rfl,_,_,rfl,rfl,a,l,ts,k+1,me,t,z,y,n',w,c+1,rfl,zo,hw,r2,VE.l,h1,h2,h3,fun v3 H3 r3 b3 X3=>?_⟩;exact⟨v3,rfl,r3,b2.trans b3,X3⟩
  ·rintro H2 ⟨⟨r2,b2⟩,ss,e,rfl⟩;refine⟨_,rfl,_,rfl,a,l,ts,k+1,me,ss,e,w,rfl,hw,r2,VE.l,sX hB,fun v3 H3 r3 b3 X3=>?_⟩;exact⟨v3,rfl,r3,b2.trans b3,X3⟩
  ·obtain⟨U_,U4⟩:=r1.ob;refine⟨_,rfl,_,_,rfl,rfl,_,rfl,?_⟩;cases b with
   |ite t z y n'=>
    have hm:m≠0:=by
     rintro rfl;simp[jo]at hB
    have Zo:At ts (k+1) ((Ut:Str)::(fK t z++(iw y++(Uk:Str)::iw n'))):=VE.l;refine bj (b_ zo) ⟨_,rfl,a,U_,C,f3,_,UY,1,[SN],_,rfl,U4,rfl,T.cl,M3,F3,K5,B3,a,l,ts,k+1,me,Ut,rfl,r1,Zo.hd,rfl,_,rfl,bj (b_ rfl) ⟨⟨r1,WW⟩,t,z,y,n',rfl⟩⟩
   |leaf ss e=>
    refine eD (fun _=>?_) (fun _=>bJ ⟨⟨r1,WW⟩,ss,e,rfl⟩);have hAl:At ts (k+1) (bZ ss++oC e):=VE.l;have htok:∃tk,(tz ts)[k+1]?=some tk/\tk≠Ut:=by
     cases ss with
     |nil=>
      have XX:At ts (k+1) (oC e):=hAl;have hE:uL e:=(sX hB).2.2.2;refine⟨_,xn XX,fun h=>?_⟩;have:=mO hE;rw[h]at this;revert this;decide +kernel
     |cons g r=>
      have XX:At ts (k+1) ((("set":Str)::(vN g++bZ r))++oC e):=hAl;exact⟨_,XX.hd,zk⟩
    obtain⟨tk,Zj,La⟩:=htok;refine⟨_,rfl,a,U_,C,f3,_,UY,1,[SN],_,rfl,U4,rfl,T.cl,M3,F3,K5,B3,a,l,ts,k+1,me,tk,rfl,r1,Zj,rfl,_,rfl,aN (d_ fun h=>La (V.str.inj h)) ⟨⟨r1,WW⟩,ss,e,rfl⟩⟩
end
def Ot.kt(k:N6 H H')(h:Ot H u x):Ot H' u x:=let⟨p,a,b⟩:=h;⟨p,a,k _ _ b⟩
def xz(ts:UD)(k:Nat)(fs:UF):Prop:=∀i(h:i<fs.length),(tz ts)[k+3*i]?=some fs[i].1/\bL fs[i].1/\(tz ts)[k+3*i+1]?=some fs[i].2/\fs[i].2∈km/\(i+1<fs.length->(tz ts)[k+3*i+2]?=some ",")
inductive kr(C:Ux)(vs:UG)(H:Hp)(Q:VK)(Z3:XK):Prop
 |mk(a l ts k me fs:_):vs=[.ref a]->Oa C H a l ts k me->(tz ts)[k]?=some "("->xz ts (k+1) fs->(tz ts)[k+1+(3*fs.length-1)]?=some ")"->fs.length<=3->(∀p us H',Oa C H' a l ts (k+2+(3*fs.length-1)) me->NX a H H'->H p=none->H' p=some (.tup us)->Paired (Ot H') us fs->Q (.ref p) H')->kr C vs H Q Z3
structure FI(C:Ux)(H:Hp)(a l:Ux)(ts:UD)(k:Nat)(me:Bool)(fs:UF)(j:Nat)(lf:Ux)(H':Hp):Prop where
 rd:Oa C H' a l ts (k+(3*j-1)) me
 bt:NX a H H'
 nf:H lf=none
 la:lf≠a
 ll:lf≠l
 ls:∃us,H' lf=some (.lst us)/\us.length=j/\Paired (Ot H') us (fs.take j)
section
def FI.more(I:FI C H a l ts k me fs j lf H3)(hj:j<fs.length)(hk:N6 H3 H4)(e4:H4 lf=some (.lst us))(hu:us.length=j)(hp:Paired (Ot H3) us (fs.take j))
  (r4:Oa C H4 a l ts (k+(3*(j+1)-1)) me) (b4:NX a H3 H4) (ep:H4 p=some (.tup [.str fs[j].1,.str fs[j].2])):FI C H a l ts k me fs (j+1) lf (az H4 lf (.lst (us++[.ref p]))):=by
 have k2:=sW (ys:=us++[V.ref p]) e4;refine⟨⟨?_,?_,r4.le⟩,?_,I.nf,I.la,I.ll,us++[.ref p],ac,by simp[hu],?_⟩
 ·obtain⟨dx,ho⟩:=r4.ob;exact⟨dx,by rw[ao I.la.symm];exact ho⟩
 ·rw[ao I.ll.symm];exact r4.tk
 ·intro b o e nb;by_cases h:b=lf
  ·rw[h,I.nf]at e;cases e
  ·rw[ao h];exact b4 _ _ (I.bt _ _ e nb) nb
 ·rw[Kh,Kd hj];exact ff ⟨p,rfl,k2 _ _ ep⟩ (bW (fun _ _ h=>(h.kt hk).kt k2) hp)
def PJ:al [SY,TU] [SY] (ah fE):=bH zk
def uP(F:N1 K "read_fields" "read_fields" fE f fd)(T:pX P w K mg base C)(Z:qP K mg aS aE aF t1 t2 t3 t4)(B:Bl mg)(FL:Fn P w K mg base "read_field" 3 [SY] (mM C)):NN P w K mg base br 4 f fd [SY] (kr C):=by
 have ZZ:=PJ
 walk_at "o"
 ·obtain⟨a,l,ts,k,me,fs,rfl,hR,h0,hf,he,h3,q⟩:=h;have sz:(1000:Nat)<=sizeLine:=by decide
  refine⟨_,ae (aQ (aR (pv 0) (aa (av (aa aj ab)) ab)))
   (ae (bS (i:=1) PJ.nd (bF ab))
   (dX (fun σ H'=>∃j lf,j=min 1 fs.length/\σ=[some (.ref a),some (.ref lf)]/\FI C H a l ts (k+1) me fs j lf H') (aM (ak fb (aW (pv 0)) aj) (ag (aQ (fe J7 J1 J0 cg (pv 1) (aa (ap FL hr rfl (aa (pv 0) ab)) ab)))) aw)
   (dX (fun σ H'=>∃lf,σ=[some (.ref a),some (.ref lf)]/\FI C H a l ts (k+1) me fs fs.length lf H') (df f_ (PW.pt (cr (jR dM dM ai (au aH (by rfl) B.len JI (aa (pv 1) ab)) (be (v:=.int 3) rfl Z.mf ⟨_,rfl⟩)) (cb (ak aY (aW (pv 0)) aj))))
    (ae (aQ (aW (pv 0))) (ag (aQ (fe J7 J1 J0 cg (pv 1) (aa (ap FL hr rfl (aa (pv 0) ab)) ab))))))
   (ae (aQ (aR (pv 0) (aa (av (aa aj ab)) ab)))
   (ag (am (aV bh (by rfl) B.tuple aZ (aa (pv 1) ab)))))))),?_⟩
  obtain⟨f1,K7,M1,F1,B1⟩:=T.need;obtain⟨f2,UZ,M2,F2,B2⟩:=T.take;obtain⟨f3,UY,M3,F3,B3⟩:=T.look;obtain⟨dx,ho⟩:=hR.ob;refine⟨_,rfl,a,dx,C,f1,_,K7,2,[SN,Ti],_,rfl,ho,rfl,T.cl,M1,F1,hr.m,B1,N0,fun p1 n1=>?_⟩;have s1:=af (o:=.tup [.str "("]) n1;refine⟨a,l,ts,k,me,"(",p1,["("],rfl,hR.same s1,h0,(.inr (NL.of ac)),by simp,fun H1 r1 b1=>?_⟩;have c1:NX a H H1:=(bR s1).trans b1;obtain⟨U_,U4⟩:=r1.ob;refine⟨N0,fun lf nf=>?_⟩;have s2:=af (o:=.lst []) nf;have e2:(az H1 lf (.lst [])) lf=some (.lst []):=ac;have nH:H lf=none:=h7 c1 U4 nf;have laN:lf≠a:=by
   rintro rfl;rw[nH]at ho;cases ho
  have llN:lf≠l:=fun z=>by
   have:=hR.tk;rw[<-z,nH]at this;cases this
  have I0:FI C H a l ts (k+1) me fs 0 lf (az H1 lf (.lst [])):=⟨r1.same s2,c1.same s2,nH,laN,llN,[],e2,rfl,.nil⟩;generalize az H1 lf (.lst ([]:UG))=H2 at*;refine⟨?_,?_⟩
  ·rintro σ H3 ⟨j0,lf,hj0,rfl,I3⟩;refine⟨?_,?_⟩
   ·rintro σ H4 ⟨lf,rfl,I4⟩;obtain⟨us,e4,l4,p4⟩:=I4.ls;rw[Kg]at p4;obtain⟨Wi,U5⟩:=I4.rd.ob;refine⟨_,rfl,a,Wi,C,f1,_,K7,2,[SN,Ti],_,rfl,U5,rfl,T.cl,M1,F1,hr.m,B1,N0,fun p2 n2=>?_⟩;have s4:=af (o:=.tup [.str ")"]) n2;refine⟨a,l,ts,_,me,")",p2,[")"],rfl,I4.rd.same s4,he,(.inr (NL.of ac)),by simp,fun H5 r5 b5=>?_⟩;have e5:=b5 _ _ (s4 _ _ e4) I4.la;have k5:=(ay s4).trans (b5.kt (s4 _ _ U5));obtain⟨WE,VD⟩:=r5.ob;have c5:NX a H H5:=(I4.bt.same s4).trans b5;refine⟨_,rfl,lf,us,rfl,.inl ⟨NQ.of e5,fun p3 n3=>?_⟩⟩;have s6:=af (o:=.tup us) n3;refine q p3 us _ ?_ (c5.same s6) (h7 c5 VD n3) ac (bW (fun _ _ h=>(h.kt k5).kt (ay s6)) p4);have:=r5.same s6;have ee:k+1+(3*fs.length-1)+1=k+2+(3*fs.length-1):=by lia
    rw[ee]at this;exact this
   ·refine⟨fun m σ H'=>∃j lf,m=fs.length-j/\j<=fs.length/\(0<j\/fs.length=0)/\σ=[some (.ref a),some (.ref lf)]/\FI C H a l ts (k+1) me fs j lf H',⟨_,j0,lf,rfl,zo,zo,rfl,I3⟩,?_⟩;rintro m σ H5 ⟨j,lf,rfl,hj,hj1,rfl,I5⟩;obtain⟨us,e5,l5,p5⟩:=I5.ls;obtain⟨WE,VD⟩:=I5.rd.ob;have done:j=fs.length->∃lf',[some (V.ref a),some (V.ref lf)]=[some (V.ref a),some (.ref lf')]/\FI C H a l ts (k+1) me fs fs.length lf' H5:=fun e=>⟨lf,rfl,e▸I5⟩;by_cases hj0':0<j
    ·by_cases Ld:j<fs.length
     ·refine⟨_,rfl,lf,_,rfl,.inl (NQ.of e5),_,_,rfl,rfl,_,rfl,bj (b_ (by rw[l5];lia)) ⟨_,_,rfl,rfl,_,rfl,bj (b_ (by rw[l5];lia)) ?_⟩⟩;obtain⟨_,_,_,_,hcm⟩:=hf (j-1) zo;have YV:(tz ts)[k+1+(3*j-1)]?=some ",":=by
       have:=hcm zo;rw[show k+1+3*(j-1)+2=k+1+(3*j-1)by lia]at this;exact this
      refine⟨_,rfl,a,WE,C,f3,_,UY,1,[SN],_,rfl,VD,rfl,T.cl,M3,F3,hr.m,B3,a,l,ts,_,me,",",rfl,I5.rd,YV,rfl,_,rfl,bj zk ?_⟩;refine⟨fun σ' H'=>σ'=[some (.ref a),some (.ref lf)]/\FI C H a l ts (k+1) me fs (j+1) lf H',fun σ' H'⟨e1,e2⟩=>⟨_,zo,j+1,lf,rfl,zo,zo,e1,e2⟩,?_⟩;refine⟨_,rfl,a,WE,C,f2,_,UZ,1,[SN],_,rfl,VD,rfl,T.cl,M2,F2,hr.m,B2,a,l,ts,_,me,",",rfl,I5.rd,YV,fun H6 r6 b6=>?_⟩;obtain⟨dx6,Xu⟩:=r6.ob;have e6:=b6 _ _ e5 I5.la;obtain⟨g1,g2,g3,g4,_⟩:=hf j Ld;have ek:k+1+(3*j-1)+1=k+1+3*j:=by lia
      rw[ek]at r6;refine⟨_,rfl,.inl ⟨rfl,_,NQ.of e6⟩,_,rfl,a,l,ts,_,me,fs[j],rfl,r6,g1,g2,g3,g4,fun p H7 r7 b7 np ep=>?_⟩;have e7:=b7 _ _ e6 I5.la;have ek2:k+1+3*j+2=k+1+(3*(j+1)-1):=by lia
      rw[ek2]at r7;exact⟨lf,us,_,rfl,rfl,e7,by rw[l5];lia,rfl,I5.more Ld ((b6.kt VD).trans (b7.kt Xu)) e7 l5 p5 r7 (b6.trans b7) ep⟩
     ·have Yr:j=fs.length:=by lia
      have V5:(tz ts)[k+1+(3*j-1)]?=some ")":=by rw[Yr];exact he
      by_cases h3':j<3
      ·refine⟨_,rfl,lf,_,rfl,.inl (NQ.of e5),_,_,rfl,rfl,_,rfl,bj (b_ (by rw[l5];lia)) ⟨_,_,rfl,rfl,_,rfl,bj (b_ (by rw[l5];lia)) ?_⟩⟩;refine⟨_,rfl,a,WE,C,f3,_,UY,1,[SN],_,rfl,VD,rfl,T.cl,M3,F3,hr.m,B3,a,l,ts,_,me,")",rfl,I5.rd,V5,rfl,_,rfl,aN zk (done Yr)⟩
      ·refine⟨_,rfl,lf,_,rfl,.inl (NQ.of e5),_,_,rfl,rfl,_,rfl,bj (b_ (by rw[l5];lia)) ⟨_,_,rfl,rfl,_,rfl,aN (d_ (by rw[l5];lia)) (bJ (done Yr))⟩⟩
    ·have Yr:j=fs.length:=by lia
     refine⟨_,rfl,lf,_,rfl,.inl (NQ.of e5),_,_,rfl,rfl,_,rfl,aN (d_ (by rw[l5];lia)) ⟨_,rfl,bJ (bJ (done Yr))⟩⟩
  ·obtain⟨U9,UL⟩:=I0.rd.ob;by_cases hz:0<fs.length
   ·obtain⟨g1,g2,g3,g4,_⟩:=hf 0 hz;have Z7:fs[0].1≠(")":Str):=by
     intro z;obtain⟨_,_,_,hc⟩:=g2;rw[z]at hc;exact absurd (hc 41 zk) zo
    refine⟨_,rfl,a,U9,C,f3,_,UY,1,[SN],_,rfl,UL,rfl,T.cl,M3,F3,hr.m,B3,a,l,ts,_,me,fs[0].1,rfl,I0.rd,g1,rfl,_,rfl,bj (by simpa using Z7) ?_⟩;refine⟨_,rfl,.inl ⟨rfl,_,NQ.of e2⟩,_,rfl,a,l,ts,_,me,fs[0],rfl,I0.rd,g1,g2,g3,g4,fun p H7 r7 b7 np ep=>?_⟩;have e7:=b7 _ _ e2 I0.la;exact⟨lf,[],_,rfl,rfl,e7,by show 0<sizeLine;decide,1,lf,zo,rfl,I0.more hz (b7.kt UL) e7 rfl .nil r7 b7 ep⟩
   ·have hz0:fs.length=0:=by lia
    have V5:(tz ts)[k+1+(3*0-1)]?=some ")":=by rw[hz0]at he;exact he
    refine⟨_,rfl,a,U9,C,f3,_,UY,1,[SN],_,rfl,UL,rfl,T.cl,M3,F3,hr.m,B3,a,l,ts,_,me,")",rfl,I0.rd,V5,rfl,_,rfl,aN (by simp) ?_⟩;exact⟨0,lf,zo,rfl,I0⟩
end
structure Kn where
 name:Str
 fs:UF
 bd:Bd
 dd:Dd
inductive Oz(H:Hp)(u:V)(x:Kn):Prop
 |mk(p tf b us:_):u=.ref p->H p=some (.tup [.str x.name,.ref tf,b])->H tf=some (.tup us)->Paired (Ot H) us x.fs->Qq H x.bd b->Oz H u x
def Oz.kt(k:N6 H H')(h:Oz H u x):Oz H' u x:=by obtain⟨p,tf,b,us,a,c,d,e,f⟩:=h;exact ⟨p,tf,b,us,a,k _ _ c,k _ _ d,bW (fun _ _ h=>h.kt k) e,f.kt k⟩
def uQ(x:Kn):Nat:=4+(3*x.fs.length-1)+(iw x.bd).length
structure qR(ts:UD)(w k:Nat)(x:Kn):Prop where
 t0:(tz ts)[k]?=some S0
 t1:(tz ts)[k+1]?=some x.name
 nm:bL x.name
 t2:(tz ts)[k+2]?=some "("
 fl:xz ts (k+3) x.fs
 t3:(tz ts)[k+3+(3*x.fs.length-1)]?=some ")"
 le:x.fs.length<=3
 bt:At ts (k+4+(3*x.fs.length-1)) (iw x.bd)
 bo:jo w 3 x.bd
inductive qS(C:Ux)(vs:UG)(H:Hp)(Q:VK)(Z3:XK):Prop
 |mk(a l ts k me x:_)(w:Nat):vs=[.ref a,.int w]->w<=24->Oa C H a l ts k me->qR ts w k x->(∀u H',Oa C H' a l ts (k+uQ x) me->NX a H H'->Oz H' u x->Q u H')->qS C vs H Q Z3
section
def PX:al [SY,SV,"name",TU] [SY,SV] (ah iK):=bH zk
def Al(F:N1 K "read_kind" "read_kind" iK f fd)(T:pX P w K mg base C)(FS:Fn P w K mg base "read_fields" 4 [SY] (kr C))(BD:Fn P w K mg base "read_body" n [SY,SV,TH] (jC C 3))(hn:4<=n):NN P w K mg base br (n+1) f fd [SY,SV] (qS C):=by
 have ZZ:=PX
 walk_at "o"
 ·obtain⟨a,l,ts,k,me,x,w,rfl,hw,hR,hK,q⟩:=h;have K6:NZ 2 _:=hr.mono zo;have Xs:NZ 4 _:=hr.mono zo;refine⟨_,ae (aQ (aR (pv 0) (aa (av (aa aj ab)) ab)))
   (ae (bS (i:=2) PX.nd (aW (pv 0)))
   (ae (bS (i:=3) PX.nd (ap FS Xs rfl (aa (pv 0) ab)))
   (ag (am (av (aa (pv 2) (aa (pv 3) (aa (ap BD hr rfl (aa (pv 0) (aa (pv 1) (aa ai ab)))) ab)))))))),?_⟩
  obtain⟨f1,K7,M1,F1,B1⟩:=T.need;obtain⟨f2,UZ,M2,F2,B2⟩:=T.nname;obtain⟨dx,ho⟩:=hR.ob;refine⟨_,rfl,a,dx,C,f1,_,K7,2,[SN,Ti],_,rfl,ho,rfl,T.cl,M1,F1,K6,B1,N0,fun p1 n1=>?_⟩;have s1:=af (o:=.tup [.str S0]) n1;refine⟨a,l,ts,k,me,S0,p1,[S0],rfl,hR.same s1,hK.t0,(.inr (NL.of ac)),by simp,fun H1 r1 b1=>?_⟩;obtain⟨U_,U4⟩:=r1.ob;refine⟨_,rfl,a,U_,C,f2,_,UZ,2,[SN],_,rfl,U4,rfl,T.cl,M2,F2,K6,B2,a,l,ts,k+1,me,x.name,rfl,r1,hK.t1,hK.nm,fun H2 r2 b2=>?_⟩;refine⟨_,rfl,a,l,ts,k+2,me,x.fs,rfl,r2,hK.t2,hK.fl,hK.t3,hK.le,fun tf us H3 r3 b3 nf e3 p3=>?_⟩;obtain⟨Wa,Vo⟩:=r3.ob;have ek:k+2+2+(3*x.fs.length-1)=k+4+(3*x.fs.length-1):=by lia
  rw[ek]at r3;refine⟨_,rfl,_,rfl,_,rfl,_,rfl,a,l,ts,k+4+(3*x.fs.length-1),me,x.bd,w,0,rfl,rfl,hw,r3,hK.bt,hK.bo,fun u H4 r4 b4 hu=>⟨N0,fun pt Xp=>?_⟩⟩;have s5:=af (o:=.tup [.str x.name,.ref tf,u]) Xp;have k4:=b4.kt Vo;have r5:=r4.same s5;rw[show k+4+(3*x.fs.length-1)+(iw x.bd).length=k+uQ x by unfold uQ;lia]at r5;exact q _ _ r5 ((((((bR s1).trans b1).trans b2).trans b3).trans b4).same s5) ⟨pt,tf,u,us,rfl,ac,s5 _ _ (k4 _ _ e3),bW (fun _ _ h=>(h.kt k4).kt (ay s5)) p3,hu.kt (ay s5)⟩
abbrev qT:Stmt:=bO dG 0
inductive mR(C:Ux)(vs:UG)(H:Hp)(Q:VK)(Z3:XK):Prop
 |mk(x dx lt ts:_):vs=[.ref x,.ref lt]->H x=some (.ins C dx [])->H lt=some (.lst (aJ ts))->ts.length<=1500->(∀l H',Oa C H' x l ts 0 true->NX x H H'->Q .non H')->mR C vs H Q Z3
def Am:al [SN,Tx] [SN,Tx] (ah qT):=bH zk
end
def An(h:xs.length<=1500):dD xs none (some 1500)=xs:=by
 have e1:HT.sIx xs.length 0 none=0:=rfl;have e2:HT.sIx xs.length xs.length (some 1500)=xs.length:=by
  simp only[HT.sIx];rw[e_ zd];show min 1500 xs.length=xs.length;lia
 unfold dD;rw[e1,e2];simp
section
def xA(F:N1 K "__init__" "Reader.__init__" qT f fd)(T:Rc K C)(B:Bl mg)(hm:mg "MOST_TOKENS"=some (.int 1500 t5)):NN P w K mg base br 1 f fd [SN,Tx] (mR C):=by
 have ZZ:=Am
 walk_at "o"
 ·obtain⟨x,dx,lt,ts,rfl,hx,hl,Zr,q⟩:=h;refine⟨_,ae (bQ (pv 0) (aX ei (cB mj (pv 1) dN (cy (be (v:=.int 1500) rfl hm ⟨_,rfl⟩))) (bF (aa aj ab))) rfl)
   (ae (bQ (pv 0) ai rfl) (ag (bQ (pv 0) (bK fw (au aH (by rfl) B.len JI (aa (pv 1) ab)) (be (v:=.int 1500) rfl hm ⟨_,rfl⟩)) rfl))),?_⟩
  have lv:(aJ ts).length<=1500:=by unfold aJ;rw[JC];exact Zr
  have sz:(10000:Nat)<=sizeLine:=by decide
  refine⟨_,rfl,_,rfl,lt,_,rfl,NQ.of hl,fun p1 n1=>?_⟩;rw[An lv];generalize zz:az H p1 _=H1;have s1:=(nw n1 zz).1;have e1:H1 p1=some (.lst (aJ ts)):=(nw n1 zz).2;clear zz;refine⟨N0,fun p2 n2=>?_⟩;have s2:=af (o:=.lst [.str ""]) n2;have Lc:=s1.trans s2;refine⟨p1,p2,_,_,rfl,rfl,s2 _ _ e1,ac,by show _+1<=_;lia,fun l nl=>?_⟩;have s3:=af (o:=.lst (aJ ts++[.str ""])) nl;have ZY:=Lc.trans s3;have el:(az (az H1 p2 (.lst [.str ""])) l (.lst (aJ ts++[.str ""]))) l=some (.lst (aJ (ts++[("":Str)]))):=by
   rw[ac];unfold aJ;rw[JR];rfl
  have nlH:H l=none:=Lc.free nl;generalize az (az H1 p2 (.lst [V.str ""])) l (.lst (aJ ts++[V.str ""]))=H3 at*;have lx:l≠x:=by
   rintro rfl;rw[nlH]at hx;cases hx
  have ltx:lt≠x:=by
   rintro rfl;rw[hl]at hx;cases hx
  refine⟨_,rfl,x,C,dx,_,rfl,ZY _ _ hx,T.cl,T.n1,(by show 0<1000;decide),?_⟩;refine⟨_,rfl,x,C,dx,_,rfl,ac,T.cl,T.n2,(by show 1<1000;decide),?_⟩;have hl3:(az (az H3 x (.ins C dx (aT Tx (.ref l) []))) x (.ins C dx (aT Uj (.int 0) (aT Tx (.ref l) [])))) lt=some (.lst (aJ ts)):=by rw[ao ltx,ao ltx];exact ZY _ _ hl
  refine⟨_,rfl,lt,_,rfl,.inl (NQ.of hl3),_,_,rfl,rfl,?_⟩;refine⟨_,rfl,x,C,dx,_,rfl,ac,T.cl,T.n3,(by show 2<1000;decide),?_⟩;have hd:decide (((aJ ts).length:Int)<=1500)=true:=b_ zo;have eF:(aT "may_end" (.bl (decide (((aJ ts).length:Int)<=1500))) (aT Uj (.int 0) (aT Tx (.ref l) [])))=zi l 0 true:=by rw[hd];rfl
  refine q l _ ⟨⟨dx,?_⟩,?_,Zr⟩ ?_
  ·rw[ac];exact i_ some (i_ (HO.ins C dx) eF)
  ·rw[ao lx,ao lx,ao lx];exact el
  ·intro b o e nb;rw[ao nb,ao nb,ao nb];exact ZY _ _ e
end
structure Fm where
 width:Nat
 cells:Nat
 depth:Nat
 places:UD
 marks:UD
 gates:UD
 kinds:List Kn
def mS(ts:UD)(w:Nat):Nat->List Kn->Prop
 |k,[]=>k=ts.length
 |k,x::r=>qR ts w k x/\mS ts w (k+uQ x) r
structure qU(ts:UD)(D:Fm):Prop where
 a0:(tz ts)[0]?=some (S8:Str)
 a1:(tz ts)[1]?=some (toString (D.width:Int):Str)
 a2:(tz ts)[2]?=some (";":Str)
 a3:(tz ts)[3]?=some (S1:Str)
 a4:(tz ts)[4]?=some (toString (D.cells:Int):Str)
 a5:(tz ts)[5]?=some (";":Str)
 a6:(tz ts)[6]?=some (S9:Str)
 a7:(tz ts)[7]?=some (toString (D.depth:Int):Str)
 a8:(tz ts)[8]?=some (";":Str)
 a9:(tz ts)[9]?=some (SZ:Str)
 pn:lL ts 10 D.places
 pe:(tz ts)[10+D.places.length]?=some (";":Str)
 m9:(tz ts)[11+D.places.length]?=some (S5:Str)
 mn:lL ts (12+D.places.length) D.marks
 me:(tz ts)[12+D.places.length+D.marks.length]?=some (";":Str)
 g9:(tz ts)[13+D.places.length+D.marks.length]?=some (TQ:Str)
 gn:lL ts (14+D.places.length+D.marks.length) D.gates
 ge:(tz ts)[14+D.places.length+D.marks.length+D.gates.length]?=some (";":Str)
 ks:mS ts D.width (15+D.places.length+D.marks.length+D.gates.length) D.kinds
 bw:4<=D.width/\D.width<=24
 bc:4<=D.cells/\D.cells<=64
 bd:D.depth<=8
 bp:1<=D.places.length/\D.places.length<=4
 bm:D.marks.length<=3
 bg:D.gates.length<=1
 bk:1<=D.kinds.length/\D.kinds.length<=8
inductive xB(H:Hp)(u:V)(D:Fm):Prop
 |mk(p pp pm pg pk us:_):u=.ref p->H p=some (.tup [.int D.width,.int D.cells,.int D.depth,.ref pp,.ref pm,.ref pg,.ref pk])->H pp=some (.tup (aJ D.places))->H pm=some (.tup (aJ D.marks))->H pg=some (.tup (aJ D.gates))->H pk=some (.tup us)->Paired (Oz H) us D.kinds->xB H u D
inductive qV(vs:UG)(H:Hp)(Q:VK)(Z3:XK):Prop
 |mk(lt ts D:_):vs=[.ref lt]->H lt=some (.lst (aJ ts))->ts.length<=1500->qU ts D->(∀u H',NJ H H'->xB H' u D->Q u H')->qV vs H Q Z3
def cD(na:H a=none)(sc:NJ H Hc)(b:NX a Hc H'):NJ H H':=fun c o e=>b c o (sc c o e) (aI e na)
structure KI(C:Ux)(Hc:Hp)(a l:Ux)(ts:UD)(all done A':List Kn)(lk pp pm pg:Ux)(D:Fm)(H':Hp):Prop where
 sp:all=done++A'
 rd:∃k,Oa C H' a l ts k true/\mS ts D.width k A'
 bt:NX a Hc H'
 nk:Hc lk=none
 la:lk≠a
 ll:lk≠l
 ep:H' pp=some (.tup (aJ D.places))
 em:H' pm=some (.tup (aJ D.marks))
 eg:H' pg=some (.tup (aJ D.gates))
 ls:∃us,H' lk=some (.lst us)/\us.length=done.length/\Paired (Oz H') us done
section
def Og:al [Tx,SY,SV,S1,S9,SZ,S5,"gates",TM] [Tx] (ah iJ):=bH zk
def Ao(F:N1 K "read_form" "read_form" iJ f fd)(T:pX P w K mg base C)(Z:qP K mg aS aE aF t1 t2 t3 t4)(B:Bl mg)(MK:Mk K C fi)(mgR:mg "Reader"=some (.ref C))(IN:NN P w K mg base br 1 fi Wg [SN,Tx] (mR C))(bI:N7 K Wg [SN,Tx] [])
  (BO:Fn P w K mg base "read_bounded" 4 [SY,S8,Uf,Tr] (iU C)) (NA:Fn P w K mg base "read_names" 3 [SY,S8,"least","most"] (mH C)) (KD:Fn P w K mg base "read_kind" n [SY,SV] (qS C)) (hn:6<=n):NN P w K mg base br (n+1) f fd [Tx] qV:=by
 have ZZ:=Og
 walk_at "o"
 ·obtain⟨lt,ts,D,rfl,hl,Zr,hF,q⟩:=h;have K5:NZ 1 _:=hr.mono zo;have K6:NZ 2 _:=hr.mono zo;have VC:NZ 3 _:=hr.mono zo;have Xs:NZ 4 _:=hr.mono zo;have sz:(10000:Nat)<=sizeLine:=by decide
  refine⟨_,ae (bS (i:=1) Og.nd (gU MK IN K6 rfl mgR bI .nil dR (aa (pv 0) ab)))
   (ae (bS (i:=2) Og.nd (ap BO Xs rfl (aa (pv 1) (aa aj (aa ai (aa ai ab))))))
   (ae (bS (i:=3) Og.nd (ap BO Xs rfl (aa (pv 1) (aa aj (aa ai (aa ai ab))))))
   (ae (bS (i:=4) Og.nd (ap BO Xs rfl (aa (pv 1) (aa aj (aa ai (aa ai ab))))))
   (ae (bS (i:=5) Og.nd (ap NA VC rfl (aa (pv 1) (aa aj (aa ai (aa ai ab))))))
   (ae (bS (i:=6) Og.nd (ap NA VC rfl (aa (pv 1) (aa aj (aa ai (aa ai ab))))))
   (ae (bS (i:=7) Og.nd (ap NA VC rfl (aa (pv 1) (aa aj (aa ai (aa ai ab))))))
   (ae (bS (i:=8) Og.nd (bF (aa (ap KD hr rfl (aa (pv 1) (aa (pv 2) ab))) ab)))
   (ae (df f_ (PW.pt (cr (ak dM (au aH (by rfl) B.len JI (aa (pv 8) ab)) (be (v:=.int 8) rfl Z.mkn ⟨_,rfl⟩)) (cb (ak aY (aW (pv 1)) aj))))
    (ag (aQ (fe J7 J1 J0 cg (pv 8) (aa (ap KD hr rfl (aa (pv 1) (aa (pv 2) ab))) ab)))))
   (ae (aQ (aW (pv 1)))
   (ag (am (av (aa (pv 2) (aa (pv 3) (aa (pv 4) (aa (pv 5) (aa (pv 6) (aa (pv 7) (aa (aV bh (by rfl) B.tuple aZ (aa (pv 8) ab)) ab))))))))))))))))))),?_⟩
  obtain⟨f3,UY,M3,F3,B3⟩:=T.look;obtain⟨f4,Xd,M4,F4,B4⟩:=T.nend;refine⟨_,rfl,fun a dx na nd ne=>⟨a,dx,lt,ts,rfl,ac,?_,Zr,fun l H1 r1 b1=>⟨rfl,?_⟩⟩⟩
  ·exact(bq na (af nd)) _ _ hl
  have s1:NJ H H1:=cD na (bq na (af nd)) b1;have naH:=na;clear b1;refine⟨_,rfl,a,l,ts,0,true,S8,D.width,4,24,rfl,r1,hF.a0,hF.a1,hF.a2,by have:=hF.bw;lia,hF.bw.1,hF.bw.2,fun H2 r2 b2=>?_⟩;refine⟨_,rfl,a,l,ts,3,true,S1,D.cells,4,64,rfl,r2,hF.a3,hF.a4,hF.a5,by have:=hF.bc;lia,hF.bc.1,hF.bc.2,fun H3 r3 b3=>?_⟩;refine⟨_,rfl,a,l,ts,6,true,S9,D.depth,0,8,rfl,r3,hF.a6,hF.a7,hF.a8,by have:=hF.bd;lia,JN _,hF.bd,fun H4 r4 b4=>?_⟩;have b14:=(b2.trans b3).trans b4;refine⟨_,rfl,a,l,ts,9,true,SZ,D.places,1,4,rfl,r4,hF.a9,hF.pn,hF.pe,hF.bp.1,hF.bp.2,zd,fun pp H5 r5 b5 np5 e5=>?_⟩;refine⟨_,rfl,a,l,ts,9+2+D.places.length,true,S5,D.marks,0,3,rfl,r5,?_,?_,?_,JN _,hF.bm,zd,fun pm H6 r6 b6 np6 e6=>?_⟩
  ·exact hF.m9
  ·rw[show 9+2+D.places.length+1=12+D.places.length by lia];exact hF.mn
  ·rw[show 9+2+D.places.length+1+D.marks.length=12+D.places.length+D.marks.length by lia];exact hF.me
  obtain⟨WE,VD⟩:=r5.ob;have e5':=(b6.kt VD) _ _ e5;refine⟨_,rfl,a,l,ts,9+2+D.places.length+2+D.marks.length,true,TQ,D.gates,0,1,rfl,r6,?_,?_,?_,JN _,hF.bg,zd,fun pg H7 r7 b7 np7 e7=>?_⟩
  ·rw[show 9+2+D.places.length+2+D.marks.length=13+D.places.length+D.marks.length by lia];exact hF.g9
  ·rw[show 9+2+D.places.length+2+D.marks.length+1=14+D.places.length+D.marks.length by lia];exact hF.gn
  ·rw[show 9+2+D.places.length+2+D.marks.length+1+D.gates.length=14+D.places.length+D.marks.length+D.gates.length by lia];exact hF.ge
  obtain⟨dx6,Xu⟩:=r6.ob;have e5'':=(b7.kt Xu) _ _ e5';have e6':=(b7.kt Xu) _ _ e6;rw[show 9+2+D.places.length+2+D.marks.length+2+D.gates.length=15+D.places.length+D.marks.length+D.gates.length by lia]at r7;have b17:NX a H1 H7:=((b14.trans b5).trans b6).trans b7;have Xv:=hF.ks;have Zn:=hF.bk;generalize 15+D.places.length+D.marks.length+D.gates.length=k0 at*;obtain⟨x0,Xg,hk0⟩:∃x r,D.kinds=x::r:=by
   cases hh:D.kinds with
   |nil=>rw[hh]at Zn;simp at Zn
   |cons x r=>exact⟨x,r,rfl⟩
  rw[hk0]at Xv Zn;obtain⟨hK0,hks'⟩:=Xv;refine⟨_,rfl,_,rfl,a,l,ts,k0,true,x0,D.width,rfl,hF.bw.2,r7,hK0,fun u0 H8 r8 b8 hu0=>?_⟩;obtain⟨dx7,ho7⟩:=r7.ob;have kk8:=b8.kt ho7;refine⟨N0,fun lk nk=>?_⟩;have s9:=af (o:=.lst [u0]) nk;have b19:NX a H1 (az H8 lk (.lst [u0])):=(b17.trans b8).same s9;obtain⟨dx8,ho8⟩:=r8.ob;obtain⟨U_,U4⟩:=r1.ob;have nkH1:H1 lk=none:=h7 (b17.trans b8) ho8 nk;have lka:lk≠a:=by
   rintro rfl;rw[ho8]at nk;cases nk
  have lkl:lk≠l:=fun z=>by
   have:=r8.tk;rw[<-z,nk]at this;cases this
  have I0:KI C H1 a l ts D.kinds [x0] Xg lk pp pm pg D (az H8 lk (.lst [u0])):=⟨hk0,⟨_,r8.same s9,hks'⟩,b19,nkH1,lka,lkl,s9 _ _ (kk8 _ _ e5''),s9 _ _ (kk8 _ _ e6'),s9 _ _ (kk8 _ _ e7),[u0],ac,rfl,.cons (hu0.kt (ay s9)) .nil⟩;generalize az H8 lk (.lst [u0])=H9 at*;refine⟨fun m σ H'=>∃done A',m=A'.length/\σ=[some (.ref lt),some (.ref a),some (.int D.width),some (.int D.cells),some (.int D.depth),some (.ref pp),some (.ref pm),some (.ref pg),some (.ref lk)]/\KI C H1 a l ts D.kinds done A' lk pp pm pg D H',⟨_,[x0],Xg,rfl,rfl,I0⟩,?_⟩;rintro m σ Ha ⟨done,A',rfl,rfl,I⟩;obtain⟨us,ek,lu,pu⟩:=I.ls;obtain⟨k,rk,hkr⟩:=I.rd;obtain⟨Zu,Yo⟩:=rk.ob;have Wj:done.length+A'.length<=8:=by
   have:=i_ List.length I.sp;rw[JH,hk0]at this;simp only[JX]at this Zn;lia
  cases A' with
  |cons x r=>
   obtain⟨hKx,hkr'⟩:=hkr;have Ld:done.length<8:=by simp only[JX]at Wj;lia
   refine⟨_,rfl,lk,_,rfl,.inl (NQ.of ek),_,_,rfl,rfl,_,rfl,bj (b_ (by rw[lu];lia)) ?_⟩;refine⟨_,rfl,a,Zu,C,f3,_,UY,1,[SN],_,rfl,Yo,rfl,T.cl,M3,F3,K5,B3,a,l,ts,k,true,S0,rfl,rk,hKx.t0,rfl,_,rfl,bj zk ?_⟩;refine⟨fun σ' H'=>σ'=[some (.ref lt),some (.ref a),some (.int D.width),some (.int D.cells),some (.int D.depth),some (.ref pp),some (.ref pm),some (.ref pg),some (.ref lk)]/\KI C H1 a l ts D.kinds (done++[x]) r lk pp pm pg D H',fun σ' H'⟨e1,e2⟩=>⟨r.length,by simp,done++[x],r,rfl,e1,e2⟩,?_⟩;refine⟨_,rfl,.inl ⟨rfl,_,NQ.of ek⟩,_,rfl,_,rfl,a,l,ts,k,true,x,D.width,rfl,hF.bw.2,rk,hKx,fun u Hb rb bb hu=>?_⟩;have kb:=bb.kt Yo;have eb:=bb _ _ ek I.la;have k2:=sW (ys:=us++[u]) eb;refine⟨lk,us,_,rfl,rfl,eb,by rw[lu];lia,rfl,?_⟩;refine⟨by rw[I.sp,JY];rfl,⟨_,⟨?_,?_,rb.le⟩,hkr'⟩,?_,I.nk,I.la,I.ll,k2 _ _ (kb _ _ I.ep),k2 _ _ (kb _ _ I.em),k2 _ _ (kb _ _ I.eg),us++[u],ac,by simp[lu],ff (hu.kt k2) (bW (fun _ _ h=>(h.kt kb).kt k2) pu)⟩
   ·obtain⟨dxb,hob⟩:=rb.ob;exact⟨dxb,by rw[ao I.la.symm];exact hob⟩
   ·rw[ao I.ll.symm];exact rb.tk
   ·intro b o e nb;by_cases h:b=lk
    ·rw[h,I.nk]at e;cases e
    ·rw[ao h];exact bb _ _ (I.bt _ _ e nb) nb
  |nil=>
   have hkE:k=ts.length:=hkr;have Xi:D.kinds=done:=by rw[I.sp,Ko]
   have lend:(tz ts)[k]?=some "":=by rw[hkE];simp[tz]
   have nke:("":Str)≠(S0:Str):=by decide +kernel
   have sH:NJ H Ha:=cD naH s1 I.bt;by_cases h8:done.length<8
   ·refine⟨_,rfl,lk,_,rfl,.inl (NQ.of ek),_,_,rfl,rfl,_,rfl,bj (b_ (by rw[lu];lia)) ?_⟩;refine⟨_,rfl,a,Zu,C,f3,_,UY,1,[SN],_,rfl,Yo,rfl,T.cl,M3,F3,K5,B3,a,l,ts,k,true,"",rfl,rk,lend,rfl,_,rfl,aN zk ?_⟩;refine⟨_,rfl,a,Zu,C,f4,_,Xd,1,[SN],_,rfl,Yo,rfl,T.cl,M4,F4,K5,B4,a,l,ts,k,rfl,rk,hkE,?_⟩;refine⟨_,rfl,_,rfl,_,rfl,_,rfl,_,rfl,_,rfl,_,rfl,lk,us,rfl,.inl ⟨NQ.of ek,fun pk Z9=>⟨N0,fun pt Xp=>?_⟩⟩⟩;have X_:=af (o:=.tup us) Z9;have X9:=af (o:=.tup [.int D.width,.int D.cells,.int D.depth,.ref pp,.ref pm,.ref pg,.ref pk]) Xp;have Lc:=X_.trans X9;exact q _ _ (sH.trans Lc) ⟨pt,pp,pm,pg,pk,us,rfl,ac,Lc _ _ I.ep,Lc _ _ I.em,Lc _ _ I.eg,X9 _ _ ac,by rw[Xi];exact bW (fun _ _ h=>h.kt (ay Lc)) pu⟩
   ·refine⟨_,rfl,lk,_,rfl,.inl (NQ.of ek),_,_,rfl,rfl,_,rfl,aN (d_ (by rw[lu];lia)) (bJ ?_)⟩;refine⟨_,rfl,a,Zu,C,f4,_,Xd,1,[SN],_,rfl,Yo,rfl,T.cl,M4,F4,K5,B4,a,l,ts,k,rfl,rk,hkE,?_⟩;refine⟨_,rfl,_,rfl,_,rfl,_,rfl,_,rfl,_,rfl,_,rfl,lk,us,rfl,.inl ⟨NQ.of ek,fun pk Z9=>⟨N0,fun pt Xp=>?_⟩⟩⟩;have X_:=af (o:=.tup us) Z9;have X9:=af (o:=.tup [.int D.width,.int D.cells,.int D.depth,.ref pp,.ref pm,.ref pg,.ref pk]) Xp;have Lc:=X_.trans X9;exact q _ _ (sH.trans Lc) ⟨pt,pp,pm,pg,pk,us,rfl,ac,Lc _ _ I.ep,Lc _ _ I.em,Lc _ _ I.eg,X9 _ _ ac,by rw[Xi];exact bW (fun _ _ h=>h.kt (ay Lc)) pu⟩
end
abbrev Ne:=Str×Str×Bool×Nat
def xC(b:Bool):Str:=if b then "by" else "is"
def Rl(H:Hp)(kv:dm×V)(x:Ne):Prop:=kv.1=Sum.inr x.1/\∃p q,kv.2=.ref p/\H p=some (.tup [.str x.2.1,.ref q])/\H q=some (.tup [.str (xC x.2.2.1),.int (x.2.2.2:Nat)])
inductive OJ(H:Hp)(d:Ux)(ks:List Ne):Prop
 |mk(kvs:_):H d=some (.dK kvs)->Paired (Rl H) kvs ks->OJ H d ks
def Rl.kt(k:N6 H H')(h:Rl H kv x):Rl H' kv x:=by obtain⟨a,p,q,b,c,d⟩:=h;exact ⟨a,p,q,b,k _ _ c,k _ _ d⟩
def BC(e:H l=some (.dK xs)):N6 H (az H l (.dK ys)):=fun b us h=>by
 rw[ao]
 ·exact h
 ·rintro rfl;rw[e]at h;cases h
def xD:∀{kvs:List (dm×V)}{ks:List Ne},Paired (Rl H) kvs ks->∀{z:Str},z∉ks.map (·.1)->eU kvs (Sum.inr z)=none
 |_,_,.nil,_,_=>oV
 |_,_,.cons (a:=kv) (b:=x) h t,z,hz=>by
  rw[eI]
  ·exact xD t (fun m=>hz (JV _ m))
  ·intro e;rw[h.1]at e;have:=Sv e;exact hz (by rw[J9,this];exact JF)
def sY:∀{kvs:List (dm×V)}{ks:List Ne},Paired (Rl H) kvs ks->∀{z s:Str}{b:Bool}{n:Nat},(z,s,b,n)∈ks->(ks.map (·.1)).Nodup->∃p q,eU kvs (Sum.inr z)=some (.ref p)/\H p=some (.tup [.str s,.ref q])/\H q=some (.tup [.str (xC b),.int (n:Nat)])
 |_,_,.nil,_,_,_,_,m,_=>by cases m
 |_,_,.cons (a:=kv) (b:=x) h t,z,s,b,n,m,nd=>by
  rw[J9,KU]at nd;rcases JT.mp m with e|m'
  ·obtain⟨e1,p,q,e2,e3,e4⟩:=h;subst e;refine⟨p,q,?_,e3,e4⟩;rw[fB e1,e2]
  ·have La:¬kv.1=Sum.inr z:=by
    intro e;rw[h.1]at e;have:=Sv e;exact nd.1 (by rw[this];exact Ks.mpr ⟨(z,s,b,n),m',rfl⟩)
   rw[eI La];exact sY t m' nd.2
inductive gh(vs:UG)(H:Hp)(Q:VK)(Z3:XK):Prop
 |mk(d ks nm st q:_)(b:Bool)(n:Nat):vs=[.ref d,.str nm,.str st,.ref q]->OJ H d ks->H q=some (.tup [.str (xC b),.int (n:Nat)])->nm∉ks.map (·.1)->ks.length<=20->(∀H',OJ H' d (ks++[(nm,st,b,n)])->NX d H H'->Q .non H')->gh vs H Q Z3
inductive cE(K:ZF)(vs:UG)(H:Hp)(Q:VK)(Z3:XK):Prop
 |mk(d ks nm st p xs:_)(b:Bool)(n:Nat):vs=[.ref d,.str nm,.ref p]->OJ H d ks->(nm,st,b,n)∈ks->(ks.map (·.1)).Nodup->(NQ K H p (aJ xs)\/NL K H p (aJ xs))->st∈xs->(∀t q H',NJ H H'->H' t=some (.tup [.str st,.ref q])->H' q=some (.tup [.str (xC b),.int (n:Nat)])->Q (.ref t) H')->cE K vs H Q Z3
section
def uR:al [S7,"name",Tg,Tu] [S7,"name",Tg,Tu] (ah kc):=bH zk
def qW(F:N1 K "add_name" "add_name" kc f fd):NN P w K mg base br 1 f fd [S7,"name",Tg,Tu] gh:=by
 have ZZ:=uR
 walk_at "o"
 ·obtain⟨d,ks,nm,st,sq,b,n,rfl,hN,hq,hm,hk,q⟩:=h;have hu:=lD hr;refine⟨_,ae (aM (lV (qw hu (pv 1) (pv 0))) (ag aU) aw) (ag (sM hu (pv 0) (pv 1) (av (aa (pv 2) (aa (pv 3) ab))) rfl)),?_⟩;obtain⟨kvs,hd,hp⟩:=hN;have Ww:=xD hp hm;have lk:=hp.length;have szz:(1000:Nat)<=sizeLine:=by decide
  have g:N9 H d (.str nm) none:=by
   have:=N9.k (k:=Sum.inr nm) hd;rw[Ww]at this;exact this
  refine⟨_,rfl,_,rfl,d,_,rfl,g,_,rfl,bJ ?_⟩;refine⟨_,rfl,_,rfl,N0,fun p np=>?_⟩;generalize zz:az H p _=H1;have⟨s1,ep⟩:=nw np zz;clear zz;have Qk:=s1 _ _ hd;have hq1:=s1 _ _ hq;refine⟨_,rfl,_,rfl,d,_,rfl,Oh.k (k:=Sum.inr nm) Qk zo,?_⟩;rw[oW _ Ww];have k1:=BC (ys:=kvs++[(Sum.inr nm,V.ref p)]) Qk;refine q _ ⟨_,ac,ff ⟨rfl,p,sq,rfl,k1 _ _ ep,k1 _ _ hq1⟩ (bW (fun _ _ h=>(h.kt (ay s1)).kt k1) hp)⟩ (fun b o e nb=>?_);rw[ao nb];exact s1 _ _ e
def Om:al [S7,"name",TN,Tg,Tu] [S7,"name",TN] (ah gI):=bH zk
def mT(F:N1 K "need_known" "need_known" gI f fd):NN P w K mg base br 1 f fd [S7,"name",TN] (cE K):=by
 have ZZ:=Om
 walk_at "o"
 ·obtain⟨d,ks,nm,st,p,xs,b,n,rfl,hN,hm,UM,hq,hs,q⟩:=h;have hu:=lD hr;refine⟨_,ae (aM (lV (uF hu (pv 1) (pv 0))) (ag aU) aw)
   (ae (cu (g6 hu (pv 0) (pv 1)) (bT rfl (aq (bM (i:=3) Om.nd) (aq (bM (i:=4) Om.nd) bi))))
   (ae (aM (ak du (pv 3) (pv 2) rfl) (ag aU) aw)
   (ag (am (av (aa (pv 3) (aa (pv 4) ab))))))),?_⟩
  obtain⟨kvs,hd,hp⟩:=hN;obtain⟨p0,sq,hv,e0,e1⟩:=sY hp hm UM;have g:N9 H d (.str nm) (some (.ref p0)):=by
   have:=N9.k (k:=Sum.inr nm) hd;rw[hv]at this;exact this
  refine⟨_,rfl,_,rfl,d,_,rfl,g,_,rfl,bJ ?_⟩;refine⟨_,rfl,_,rfl,d,_,rfl,g,p0,_,rfl,NL.of e0,rfl,_,_,rfl,_,_,rfl,rfl,?_⟩;refine⟨_,rfl,_,rfl,p,aJ xs,rfl,hq,rfl,bu _,_,rfl,aN ?_ ?_⟩
  ·show(!kU (.str st) (aJ xs))=false;rw[cZ,J8.mpr hs];rfl
  ·refine⟨_,rfl,_,rfl,N0,fun t nt=>?_⟩;exact q t sq _ (af nt) ac (af nt _ _ e1)
end
def dI:bootBuiltins "dict"=some (.type "dict"):=by decide +kernel
structure BE(mg:Str->Option Uw):Prop where
 dict:mg "dict"=none
 enumerate:mg "enumerate"=none
def fN(fs:UF):List Ne:=fs.mapIdx fun j x=>(x.1,x.2,true,j)
def FK(fs:UF)(i:Nat):(fN fs)[i]?=fs[i]?.map fun x=>(x.1,x.2,true,i):=by unfold fN;rw[List.getElem?_mapIdx]
def qX(fs:UF):(fN fs).length=fs.length:=by unfold fN;simp
inductive xE(vs:UG)(H:Hp)(Q:VK)(Z3:XK):Prop
 |mk(d tf us ks fs:_):vs=[.ref d,.ref tf]->OJ H d ks->H tf=some (.tup us)->Paired (Ot H) us fs->((ks++fN fs).map (·.1)).Nodup->ks.length+fs.length<=20->(∀d' H',NJ H H'->H d'=none->OJ H' d' (ks++fN fs)->Q (.ref d') H')->xE vs H Q Z3
section
def Ps:al [S7,TU,"within","j","name",Tg] [S7,TU] (ah gJ):=bH zk
def Dk(F:N1 K "names_with_fields" "names_with_fields" gJ f fd)(B:BE mg)(AN:Fn P w K mg base "add_name" 1 [S7,"name",Tg,Tu] gh):NN P w K mg base br 2 f fd [S7,TU] xE:=by
 have ZZ:=Ps
 walk_at "o"
 ·obtain⟨d,tf,us,ks,fs,rfl,⟨kvs,hd,hp⟩,ht,hf,UM,h20,q⟩:=h;refine⟨_,ae (bS (i:=2) Ps.nd (aV qy (by rfl) B.dict dI (aa (pv 0) ab)))
   (ae (cv f_ rfl (j7 rfl B.enumerate (aa (pv 1) ab)) (bT rfl (aq (bM (i:=3) Ps.nd) (aq (bT rfl (aq (bM (i:=4) Ps.nd) (aq (bM (i:=5) Ps.nd) bi))) bi)))
    (ag (aQ (ap AN hr rfl (aa (pv 2) (aa (pv 4) (aa (pv 5) (aa (av (aa aj (aa (pv 3) ab))) ab))))))))
   (ag (am (pv 2)))),?_⟩
  refine⟨_,rfl,d,kvs,rfl,hd,fun d' WJ=>?_⟩;generalize zz:az H d' _=H1;have s1:=(nw WJ zz).1;have e1:H1 d'=some (.dK kvs):=(nw WJ zz).2;clear zz;refine⟨_,rfl,tf,rfl,⟨_,NL.of (s1 _ _ ht)⟩,?_⟩;have lf:=hf.length;refine iI (K:=K) (l:=tf) (xs:=us) (fun i σ H'=>∃v3 v4 v5:Option V,σ=[some (.ref d),some (.ref tf),some (.ref d'),v3,v4,v5]/\NJ H H'/\OJ H' d' (ks++(fN fs).take i)) ⟨_,_,_,rfl,s1,kvs,e1,by simpa using bW (fun _ _ h=>h.kt (ay s1)) hp⟩ (fun i σ H' _⟨_,_,_,_,s',_⟩=>NL.of (s' _ _ ht)) ?_ ?_
  ·rintro i x σ H2 T1 hx nT ⟨v3,v4,v5,rfl,s2,n2⟩;obtain⟨y,hy,pf,rfl,Xt⟩:=mP hf hx;have Ld:i<fs.length:=(JA.mp hy).1;have s3:=af (o:=.tup [.int (i:Int),.ref pf]) nT;have s23:=s2.trans s3;refine⟨T1,_,rfl,NL.of ac,rfl,_,_,rfl,_,_,rfl,⟨pf,_,rfl,NL.of (s23 _ _ Xt),rfl,_,_,rfl,_,_,rfl,rfl,rfl,?_⟩⟩;refine⟨_,rfl,_,rfl,_,rfl,_,rfl,N0,fun t nt=>?_⟩;have s4:=af (o:=.tup [.str "by",.int (i:Int)]) nt;have s24:=s23.trans s4;have n4:OJ (az (az H2 T1 (.tup [.int (i:Int),.ref pf])) t (.tup [.str "by",.int (i:Int)])) d' (ks++(fN fs).take i):=let⟨kv2,a,b⟩:=n2;⟨kv2,(s3.trans s4) _ _ a,bW (fun _ _ h=>h.kt (ay (s3.trans s4))) b⟩;have VB:(fN fs)[i]?=some (y.1,y.2,true,i):=by rw[FK,hy];rfl
   have VP:i<(fN fs).length:=by rw[qX];exact Ld
   have Wh:(fN fs).take (i+1)=(fN fs).take i++[(y.1,y.2,true,i)]:=by rw[Kh,VB];rfl
   refine⟨d',_,y.1,y.2,t,true,i,rfl,n4,ac,?_,?_,fun H5 n5 b5=>⟨_,_,_,rfl,cD WJ s24 b5,?_⟩⟩
   ·intro hm;have e5:ks++fN fs=(ks++(fN fs).take i)++((y.1,y.2,true,i)::(fN fs).drop (i+1)):=by
     rw[JY]
     congr 1
     have:=(Kw i (fN fs)).symm;rw[Ka VP]at this;rw[(JA.mp VB).2]at this;exact this
    rw[e5,JR,J9]at UM;exact(List.nodup_append.mp UM).2.2 _ hm _ JF rfl
   ·rw[JH,JU,qX];lia
   ·rw[Wh,<-JY];exact n5
  ·rintro σ H2 ⟨v3,v4,v5,rfl,s2,n2⟩;rw[lf,<-qX,Kg]at n2;exact⟨_,rfl,q d' H2 s2 WJ n2⟩
end
inductive PN(H:Hp)(b:Bool)(n:Nat)(v:V):Prop
 |mk(q:_):v=.ref q->H q=some (.tup [.str (xC b),.int (n:Nat)])->PN H b n v
def PN.kt(k:N6 H H')(h:PN H b n v):PN H' b n v:=let⟨p,a,c⟩:=h;⟨p,a,k _ _ c⟩
def Od(H:Hp):Ed->V->Prop
 |.num n,v=>∃p,v=.ref p/\H p=some (.tup [.str "number",.int (n:Nat)])
 |.fld j,v=>∃p,v=.ref p/\H p=some (.tup [.str TZ,.int (j:Nat)])
 |.pl b n,v=>∃p u,v=.ref p/\H p=some (.tup [.str SU,u])/\PN H b n u
 |.mk b n,v=>∃p u,v=.ref p/\H p=some (.tup [.str S2,u])/\PN H b n u
 |.cell e,v=>∃p u,v=.ref p/\H p=some (.tup [.str "cell",u])/\Od H e u
 |.two o x y,v=>∃p u t,v=.ref p/\H p=some (.tup [.str o,u,t])/\Od H x u/\Od H y t
def Od.kt(k:N6 H H'):∀{e:Ed}{v:V},Od H e v->Od H' e v
 |.num _,_,⟨p,a,b⟩=>⟨p,a,k _ _ b⟩
 |.fld _,_,⟨p,a,b⟩=>⟨p,a,k _ _ b⟩
 |.pl _ _,_,⟨p,u,a,b,c⟩=>⟨p,u,a,k _ _ b,c.kt k⟩
 |.mk _ _,_,⟨p,u,a,b,c⟩=>⟨p,u,a,k _ _ b,c.kt k⟩
 |.cell _,_,⟨p,u,a,b,c⟩=>⟨p,u,a,k _ _ b,Od.kt k c⟩
 |.two _ _ _,_,⟨p,u,t,a,b,c,d⟩=>⟨p,u,t,a,k _ _ b,Od.kt k c,Od.kt k d⟩
inductive sZ(ks:List Ne):Ex->Ed->Prop
 |num (n:Nat):sZ ks (.num n) (.num n)
 |fld {z:Str} {b:Bool} {n:Nat}:(z,("number":Str),b,n)∈ks->sZ ks (.nm z) (.fld n)
 |pl {z:Str} {b:Bool} {n:Nat}:(z,(SU:Str),b,n)∈ks->sZ ks (.nm z) (.pl b n)
 |mk{z:Str}{b:Bool}{n:Nat}:(z,(S2:Str),b,n)∈ks->sZ ks (.nm z) (.mk b n)
 |cell {e:Ex} {d:Ed}:sZ ks e d->sZ ks (.cell e) (.cell d)
 |two {o:Str} {x y:Ex} {a b:Ed}:o∈ki->sZ ks x a->sZ ks y b->sZ ks (.two o x y) (.two o a b)
def qY:Ex->Nat
 |.num _=>0
 |.nm _=>0
 |.cell e=>qY e+1
 |.two _ x y=>max (qY x) (qY y)+1
inductive tj(m:Nat)(vs:UG)(H:Hp)(Q:VK):Prop
 |mk(d ks v e ed:_):vs=[.ref d,v]->OJ H d ks->(ks.map (·.1)).Nodup->O7 H e v->sZ ks e ed->qY e<=m->(∀u H',NJ H H'->Od H' ed u->Q u H')->tj m vs H Q
def mU :Nat->Sp
 |0=>hZ
 |m+1=>fun vs H Q _=>tj m vs H Q
def OJ.same(h:OJ H d ks)(s:NJ H H'):OJ H' d ks:=let⟨kv,a,b⟩:=h;⟨kv,s _ _ a,bW (fun _ _ h=>h.kt (ay s)) b⟩
def Dl:("number":Str)∉ki/\("name":Str)∉ki/\("cell":Str)∉ki:=by decide +kernel
section
def Pn:al [S7,Uu,Tg,Tu,Th] [S7,Uu] (ah mz):=bH zk
def jD(F:N1 K "expression_of" "expression_of" mz f fd)(NK:Fn P w K mg base "need_known" 1 [S7,"name",TN] (cE K))(EX:Fn P w K mg base "expression_of" n [S7,Uu] (mU m))(hn:1<=n):NN P w K mg base br (n+1) f fd [S7,Uu] (mU (m+1)):=by
 have ZZ:=Pn
 walk_at "o"
 ·obtain⟨d,ks,v,e,ed,rfl,hN,UM,hV,hE,hD,q⟩:=h;have K5:NZ 1 _:=hr.mono zo;refine⟨_,ae (aM (ak aY (ax ar (pv 1) ai) aj) (ag (am (pv 1))) aw)
   (ae (aM (ak aY (ax ar (pv 1) ai) aj)
    (ae (cu (ap NK K5 rfl (aa (pv 0) (aa (ax ar (pv 1) ai) (aa (av (aa aj (aa aj (aa aj ab)))) ab)))) (bT rfl (aq (bM (i:=2) Pn.nd) (aq (bM (i:=3) Pn.nd) bi))))
    (ag (am (bx (ak aY (pv 2) aj) (av (aa aj (aa (ax ar (pv 3) ai) ab))) (av (aa (pv 2) (aa (pv 3) ab))))))) aw)
   (ae (aM (ak aY (ax ar (pv 1) ai) aj) (ag (am (av (aa aj (aa (ap EX hr rfl (aa (pv 0) (aa (ax ar (pv 1) ai) ab))) ab))))) aw)
   (ae (bS (i:=4) Pn.nd (ap EX hr rfl (aa (pv 0) (aa (ax ar (pv 1) ai) ab))))
   (ag (am (av (aa (ax ar (pv 1) ai) (aa (pv 4) (aa (ap EX hr rfl (aa (pv 0) (aa (ax ar (pv 1) ai) ab))) ab))))))))),?_⟩
  have nnum:∀z:Str,z≠"number"->decide (V.str z=V.str "number")=false:=fun z h=>d_ fun e=>h (V.str.inj e);cases hE with
  |num i=>
   obtain⟨p,rfl,hp⟩:=hV;refine⟨_,rfl,p,_,_,_,rfl,rfl,NL.of hp,bf,rfl,_,rfl,bj (b_ rfl) ⟨_,rfl,q _ _ (NJ.refl _) ⟨p,rfl,hp⟩⟩⟩
  |@fld z b i hm=>
   obtain⟨p,rfl,hp⟩:=hV;refine⟨_,rfl,p,_,_,_,rfl,rfl,NL.of hp,bf,rfl,_,rfl,aN zk ?_⟩;refine⟨_,rfl,p,_,_,_,rfl,rfl,NL.of hp,bf,rfl,_,rfl,bj (b_ rfl) ?_⟩;refine⟨_,rfl,_,rfl,p,_,_,_,rfl,rfl,NL.of hp,cn,N0,fun t nt=>?_⟩;have s1:=af (o:=.tup [.str SU,.str S2,.str "number"]) nt;refine⟨d,ks,z,"number",t,[SU,S2,"number"],b,i,rfl,hN.same s1,hm,UM,.inr (NL.of ac),zk,fun t2 sq H2 s2 e2 e3=>?_⟩;refine⟨t2,_,rfl,NL.of e2,rfl,_,_,rfl,_,_,rfl,rfl,?_⟩;refine⟨_,rfl,rfl,_,rfl,bj (b_ rfl) ⟨_,rfl,sq,_,_,_,rfl,rfl,NL.of e3,cn,N0,fun p4 n4=>?_⟩⟩;exact q _ _ ((s1.trans s2).trans (af n4)) ⟨p4,rfl,ac⟩
  |@pl z b i hm=>
   obtain⟨p,rfl,hp⟩:=hV;refine⟨_,rfl,p,_,_,_,rfl,rfl,NL.of hp,bf,rfl,_,rfl,aN zk ?_⟩;refine⟨_,rfl,p,_,_,_,rfl,rfl,NL.of hp,bf,rfl,_,rfl,bj (b_ rfl) ?_⟩;refine⟨_,rfl,_,rfl,p,_,_,_,rfl,rfl,NL.of hp,cn,N0,fun t nt=>?_⟩;have s1:=af (o:=.tup [.str SU,.str S2,.str "number"]) nt;refine⟨d,ks,z,SU,t,[SU,S2,"number"],b,i,rfl,hN.same s1,hm,UM,.inr (NL.of ac),zk,fun t2 sq H2 s2 e2 e3=>?_⟩;refine⟨t2,_,rfl,NL.of e2,rfl,_,_,rfl,_,_,rfl,rfl,?_⟩;refine⟨_,rfl,rfl,_,rfl,aN zk ⟨_,rfl,_,rfl,N0,fun p4 n4=>?_⟩⟩;have s4:=af (o:=.tup [.str SU,.ref sq]) n4;exact q _ _ ((s1.trans s2).trans s4) ⟨p4,.ref sq,rfl,ac,sq,rfl,s4 _ _ e3⟩
  |@mk z b i hm=>
   obtain⟨p,rfl,hp⟩:=hV;refine⟨_,rfl,p,_,_,_,rfl,rfl,NL.of hp,bf,rfl,_,rfl,aN zk ?_⟩;refine⟨_,rfl,p,_,_,_,rfl,rfl,NL.of hp,bf,rfl,_,rfl,bj (b_ rfl) ?_⟩;refine⟨_,rfl,_,rfl,p,_,_,_,rfl,rfl,NL.of hp,cn,N0,fun t nt=>?_⟩;have s1:=af (o:=.tup [.str SU,.str S2,.str "number"]) nt;refine⟨d,ks,z,S2,t,[SU,S2,"number"],b,i,rfl,hN.same s1,hm,UM,.inr (NL.of ac),zk,fun t2 sq H2 s2 e2 e3=>?_⟩;refine⟨t2,_,rfl,NL.of e2,rfl,_,_,rfl,_,_,rfl,rfl,?_⟩;refine⟨_,rfl,rfl,_,rfl,aN zk ⟨_,rfl,_,rfl,N0,fun p4 n4=>?_⟩⟩;have s4:=af (o:=.tup [.str S2,.ref sq]) n4;exact q _ _ ((s1.trans s2).trans s4) ⟨p4,.ref sq,rfl,ac,sq,rfl,s4 _ _ e3⟩
  |@cell e1 d1 h1=>
   obtain⟨p,u,rfl,hp,hu⟩:=hV;refine⟨_,rfl,p,_,_,_,rfl,rfl,NL.of hp,bf,rfl,_,rfl,aN zk ?_⟩;refine⟨_,rfl,p,_,_,_,rfl,rfl,NL.of hp,bf,rfl,_,rfl,aN zk ?_⟩;refine⟨_,rfl,p,_,_,_,rfl,rfl,NL.of hp,bf,rfl,_,rfl,bj (b_ rfl) ?_⟩;cases m with
   |zero=>simp[qY]at hD
   |succ m=>
    refine⟨_,rfl,_,rfl,p,_,_,_,rfl,rfl,NL.of hp,cn,d,ks,u,e1,d1,rfl,hN,UM,hu,h1,by simp[qY]at hD;lia,fun u2 H2 s2 v2=>⟨N0,fun p4 n4=>?_⟩⟩;have s4:=af (o:=.tup [.str "cell",u2]) n4;exact q _ _ (s2.trans s4) ⟨p4,u2,rfl,ac,v2.kt (ay s4)⟩
  |@two o x y a b ho hx hy=>
   obtain⟨p,u,t,rfl,hp,hu,ht⟩:=hV;obtain⟨o1,o2,o3⟩:=Dl;refine⟨_,rfl,p,_,_,_,rfl,rfl,NL.of hp,bf,rfl,_,rfl,aN (d_ fun e=>o1 (V.str.inj e▸ho)) ?_⟩;refine⟨_,rfl,p,_,_,_,rfl,rfl,NL.of hp,bf,rfl,_,rfl,aN (d_ fun e=>o2 (V.str.inj e▸ho)) ?_⟩;refine⟨_,rfl,p,_,_,_,rfl,rfl,NL.of hp,bf,rfl,_,rfl,aN (d_ fun e=>o3 (V.str.inj e▸ho)) ?_⟩;cases m with
   |zero=>simp[qY]at hD
   |succ m=>
    have VX:qY x<=m/\qY y<=m:=by
     simp only[qY]at hD;lia
    refine⟨_,rfl,_,rfl,p,_,_,_,rfl,rfl,NL.of hp,cn,d,ks,u,x,a,rfl,hN,UM,hu,hx,VX.1,fun u2 H2 s2 v2=>?_⟩;refine⟨_,rfl,p,_,_,_,rfl,rfl,NL.of (s2 _ _ hp),bf,_,rfl,_,rfl,_,rfl,p,_,_,_,rfl,rfl,NL.of (s2 _ _ hp),ic,d,ks,t,y,b,rfl,hN.same s2,UM,ht.kt (ay s2),hy,VX.2,fun u3 H3 s3 v3=>⟨N0,fun p4 n4=>?_⟩⟩;have s4:=af (o:=.tup [.str o,u2,u3]) n4;exact q _ _ ((s2.trans s3).trans s4) ⟨p4,u2,u3,rfl,ac,v2.kt (ay (s3.trans s4)),v3.kt (ay s4)⟩
end
def OQ(H:Hp)(g:Sd)(v:V):Prop:=match g with
 |.cell a e=>∃p u t,v=.ref p/\H p=some (.tup [.str "cell",u,t])/\Od H a u/\Od H e t
 |.pl b n e=>∃p u t,v=.ref p/\H p=some (.tup [.str SU,u,t])/\PN H b n u/\Od H e t
 |.mk b n e=>∃p u t,v=.ref p/\H p=some (.tup [.str S2,u,t])/\PN H b n u/\Od H e t
def OQ.kt(k:N6 H H'):∀{g:Sd}{v:V},OQ H g v->OQ H' g v
 |.cell _ _,_,⟨p,u,t,a,b,c,d⟩=>⟨p,u,t,a,k _ _ b,c.kt k,d.kt k⟩
 |.pl _ _ _,_,⟨p,u,t,a,b,c,d⟩=>⟨p,u,t,a,k _ _ b,c.kt k,d.kt k⟩
 |.mk _ _ _,_,⟨p,u,t,a,b,c,d⟩=>⟨p,u,t,a,k _ _ b,c.kt k,d.kt k⟩
inductive EL(ks:List Ne):Gs->Sd->Prop
 |cell {a e:Ex} {x y:Ed}:sZ ks a x->sZ ks e y->EL ks (.cell a e) (.cell x y)
 |pl {z:Str} {b:Bool} {n:Nat} {e:Ex} {y:Ed}:(z,(SU:Str),b,n)∈ks->sZ ks e y->EL ks (.nm z e) (.pl b n y)
 |mk{z:Str}{b:Bool}{n:Nat}{e:Ex}{y:Ed}:(z,(S2:Str),b,n)∈ks->sZ ks e y->EL ks (.nm z e) (.mk b n y)
def GZ:Gs->Nat
 |.cell a e=>max (qY a) (qY e)
 |.nm _ e=>qY e
def PR(H:Hp)(e:Ee)(v:V):Prop:=match e with
 |.w0 s=>∃p,v=.ref p/\H p=some (.tup [.str s])
 |.fault z=>∃p,v=.ref p/\H p=some (.tup [.str S3,.str z])
 |.go s j=>∃p,v=.ref p/\H p=some (.tup [.str s,.int (j:Nat)])
def PR.kt(k:N6 H H'):∀{g:Ee}{v:V},PR H g v->PR H' g v
 |.w0 _,_,⟨p,a,b⟩=>⟨p,a,k _ _ b⟩
 |.fault _,_,⟨p,a,b⟩=>⟨p,a,k _ _ b⟩
 |.go _ _,_,⟨p,a,b⟩=>⟨p,a,k _ _ b⟩
inductive EM(ks:List Ne):En->Ee->Prop
 |w0 {s:Str}:s∈([To,Ta,Tp]:UD)->EM ks (.w0 s) (.w0 s)
 |fault (z:Str):EM ks (.w1 S3 z) (.fault z)
 |go {s z:Str} {b:Bool} {n:Nat}:s∈([Uh,S_]:UD)->(z,(Tn:Str),b,n)∈ks->EM ks (.w1 s z) (.go s n)
def Ju:Tt->Str
 |.top _ _=>T9
 |.pl _ _=>SU
 |.mk _ _=>S2
def Jb:Tt->Bool×Nat
 |.top b n=>(b,n)
 |.pl b n=>(b,n)
 |.mk b n=>(b,n)
inductive Rn(H:Hp)(t:Tt)(v:V):Prop
 |mk(p u:_):v=.ref p->H p=some (.tup [.str (Ju t),u])->PN H (Jb t).1 (Jb t).2 u->Rn H t v
def Rn.kt(k:N6 H H')(h:Rn H g v):Rn H' g v:=by obtain⟨p,u,a,b,c⟩:=h;exact ⟨p,u,a,k _ _ b,c.kt k⟩
inductive FM(ks:List Ne):Bool->Str->Tt->Prop
 |top {z:Str} {b:Bool} {n:Nat}:(z,(SU:Str),b,n)∈ks->FM ks true z (.top b n)
 |pl {z:Str} {b:Bool} {n:Nat}:(z,(SU:Str),b,n)∈ks->FM ks false z (.pl b n)
 |mk{z:Str}{b:Bool}{n:Nat}:(z,(S2:Str),b,n)∈ks->FM ks false z (.mk b n)
def QN(H:Hp):Dd->V->Prop
 |.leaf s e,v=>∃p q us u,v=.ref p/\H p=some (.tup [.str TD,.ref q,u])/\H q=some (.tup us)/\Paired (fun v g=>OQ H g v) us s/\PR H e u
 |.ite t y n,v=>∃p u a b,v=.ref p/\H p=some (.tup [.str Ut,u,a,b])/\Rn H t u/\QN H y a/\QN H n b
def QN.kt(k:N6 H H'):∀{b:Dd}{v:V},QN H b v->QN H' b v
 |.leaf _ _,_,⟨p,q,us,u,a,b,c,d,e⟩=>⟨p,q,us,u,a,k _ _ b,k _ _ c,bW (fun _ _ h=>OQ.kt k h) d,PR.kt k e⟩
 |.ite _ _ _,_,⟨p,u,x,y,a,b,c,d,e⟩=>⟨p,u,x,y,a,k _ _ b,c.kt k,QN.kt k d,QN.kt k e⟩
inductive EQ(ks:List Ne):Bd->Dd->Prop
 |leaf {s:List Gs} {s':List Sd} {e:En} {e':Ee}:Paired (EL ks) s s'->EM ks e e'->EQ ks (.leaf s e) (.leaf s' e')
 |ite {t:Bool} {z:Str} {t':Tt} {y n:Bd} {y' n':Dd}:FM ks t z t'->EQ ks y y'->EQ ks n n'->EQ ks (.ite t z y n) (.ite t' y' n')
def BF:Bd->Nat
 |.leaf _ _=>0
 |.ite _ _ y n=>max (BF y) (BF n)+1
def tq(m:Nat):Bd->Prop
 |.leaf s _=>(∀g∈s,GZ g<=m)/\s.length<=4
 |.ite _ _ y n=>tq m y/\tq m n
inductive mV(m:Nat)(vs:UG)(H:Hp)(Q:VK)(Z3:XK):Prop
 |mk(d ks v g g':_):vs=[.ref d,v]->OJ H d ks->(ks.map (·.1)).Nodup->O5 H g v->EL ks g g'->GZ g<=m->(∀u H',NJ H H'->OQ H' g' u->Q u H')->mV m vs H Q Z3
inductive ku(vs:UG)(H:Hp)(Q:VK)(Z3:XK):Prop
 |mk(d ks v t z t':_):vs=[.ref d,v]->OJ H d ks->(ks.map (·.1)).Nodup->OX H t z v->FM ks t z t'->(∀u H',NJ H H'->Rn H' t' u->Q u H')->ku vs H Q Z3
inductive ky(vs:UG)(H:Hp)(Q:VK)(Z3:XK):Prop
 |mk(d ks v e e':_):vs=[.ref d,v]->OJ H d ks->(ks.map (·.1)).Nodup->Rh H e v->EM ks e e'->(∀u H',NJ H H'->PR H' e' u->Q u H')->ky vs H Q Z3
inductive lM(m0:Nat)(m:Nat)(vs:UG)(H:Hp)(Q:VK):Prop
 |mk(d ks v b b':_):vs=[.ref d,v]->OJ H d ks->(ks.map (·.1)).Nodup->Qq H b v->EQ ks b b'->BF b<=m->tq m0 b->(∀u H',NJ H H'->QN H' b' u->Q u H')->lM m0 m vs H Q
def ig(m0:Nat):Nat->Sp
 |0=>hZ
 |m+1=>fun vs H Q _=>lM m0 m vs H Q
section
def Oe:al [S7,Td,Tg,Up,S8,T3,Tu] [S7,Td] (ah qB):=bH zk
def xF(F:N1 K "set_of" "set_of" qB f fd)(NK:Fn P w K mg base "need_known" 1 [S7,"name",TN] (cE K))(EX:Fn P w K mg base "expression_of" n [S7,Uu] (mU (m+1)))(hn:1<=n):NN P w K mg base br (n+1) f fd [S7,Td] (mV m):=by
 have ZZ:=Oe
 walk_at "o"
 ·obtain⟨d,ks,v,g,g',rfl,hN,UM,hV,hG,hD,q⟩:=h;have K5:NZ 1 _:=hr.mono zo;refine⟨_,ae (cu (pv 1) (bT rfl (aq (bM (i:=2) Oe.nd) (aq (bM (i:=3) Oe.nd) (aq (bM (i:=4) Oe.nd) bi)))))
   (ae (aM (ak aY (pv 2) aj)
    (ae (bS (i:=5) Oe.nd (ap EX hr rfl (aa (pv 0) (aa (pv 3) ab))))
    (ag (am (av (aa aj (aa (pv 5) (aa (ap EX hr rfl (aa (pv 0) (aa (pv 4) ab))) ab))))))) aw)
   (ae (cu (ap NK K5 rfl (aa (pv 0) (aa (pv 3) (aa (av (aa aj (aa aj ab))) ab)))) (bT rfl (aq (bM (i:=2) Oe.nd) (aq (bM (i:=6) Oe.nd) bi))))
   (ag (am (av (aa (pv 2) (aa (pv 6) (aa (ap EX hr rfl (aa (pv 0) (aa (pv 4) ab))) ab)))))))),?_⟩
  cases hG with
  |@cell a e x y ha he=>
   obtain⟨p,u,t,rfl,hp,hu,ht⟩:=hV;have VX:qY a<=m/\qY e<=m:=by
    simp only[GZ]at hD;lia
   refine⟨_,rfl,p,_,rfl,NL.of hp,rfl,_,_,rfl,_,_,rfl,_,_,rfl,rfl,?_⟩;refine⟨_,rfl,rfl,_,rfl,bj (b_ rfl) ?_⟩;refine⟨_,rfl,_,rfl,d,ks,u,a,x,rfl,hN,UM,hu,ha,VX.1,fun u2 H2 s2 v2=>?_⟩;refine⟨_,rfl,_,rfl,_,rfl,d,ks,t,e,y,rfl,hN.same s2,UM,ht.kt (ay s2),he,VX.2,fun u3 H3 s3 v3=>⟨N0,fun p4 n4=>?_⟩⟩;have s4:=af (o:=.tup [.str "cell",u2,u3]) n4;exact q _ _ ((s2.trans s3).trans s4) ⟨p4,u2,u3,rfl,ac,v2.kt (ay (s3.trans s4)),v3.kt (ay s4)⟩
  |@pl z b i e y hm he=>
   obtain⟨p,t,rfl,hp,ht⟩:=hV;refine⟨_,rfl,p,_,rfl,NL.of hp,rfl,_,_,rfl,_,_,rfl,_,_,rfl,rfl,?_⟩;refine⟨_,rfl,rfl,_,rfl,aN zk ?_⟩;refine⟨_,rfl,_,rfl,N0,fun t1 nt=>?_⟩;have s1:=af (o:=.tup [.str SU,.str S2]) nt;refine⟨d,ks,z,SU,t1,[SU,S2],b,i,rfl,hN.same s1,hm,UM,.inr (NL.of ac),zk,fun t2 sq H2 s2 e2 e3=>?_⟩;have Lc:=s1.trans s2;refine⟨t2,_,rfl,NL.of e2,rfl,_,_,rfl,_,_,rfl,rfl,?_⟩;refine⟨_,rfl,_,rfl,_,rfl,_,rfl,d,ks,t,e,y,rfl,hN.same Lc,UM,ht.kt (ay Lc),he,hD,fun u3 H3 s3 v3=>⟨N0,fun p4 n4=>?_⟩⟩;have s4:=af (o:=.tup [.str SU,.ref sq,u3]) n4;exact q _ _ ((Lc.trans s3).trans s4) ⟨p4,_,u3,rfl,ac,⟨sq,rfl,s4 _ _ (s3 _ _ e3)⟩,v3.kt (ay s4)⟩
  |@mk z b i e y hm he=>
   obtain⟨p,t,rfl,hp,ht⟩:=hV;refine⟨_,rfl,p,_,rfl,NL.of hp,rfl,_,_,rfl,_,_,rfl,_,_,rfl,rfl,?_⟩;refine⟨_,rfl,rfl,_,rfl,aN zk ?_⟩;refine⟨_,rfl,_,rfl,N0,fun t1 nt=>?_⟩;have s1:=af (o:=.tup [.str SU,.str S2]) nt;refine⟨d,ks,z,S2,t1,[SU,S2],b,i,rfl,hN.same s1,hm,UM,.inr (NL.of ac),zk,fun t2 sq H2 s2 e2 e3=>?_⟩;have Lc:=s1.trans s2;refine⟨t2,_,rfl,NL.of e2,rfl,_,_,rfl,_,_,rfl,rfl,?_⟩;refine⟨_,rfl,_,rfl,_,rfl,_,rfl,d,ks,t,e,y,rfl,hN.same Lc,UM,ht.kt (ay Lc),he,hD,fun u3 H3 s3 v3=>⟨N0,fun p4 n4=>?_⟩⟩;have s4:=af (o:=.tup [.str S2,.ref sq,u3]) n4;exact q _ _ ((Lc.trans s3).trans s4) ⟨p4,_,u3,rfl,ac,⟨sq,rfl,s4 _ _ (s3 _ _ e3)⟩,v3.kt (ay s4)⟩
def OV:al [S7,Uc,S8,"name"] [S7,Uc] (ah my):=bH zk
def uS(F:N1 K "test_of" "test_of" my f fd)(NK:Fn P w K mg base "need_known" 1 [S7,"name",TN] (cE K)):NN P w K mg base br 2 f fd [S7,Uc] ku:=by
 have ZZ:=OV
 walk_at "o"
 ·obtain⟨d,ks,v,t,z,t',rfl,hN,UM,⟨p,rfl,hp⟩,hG,q⟩:=h;refine⟨_,ae (cu (pv 1) (bT rfl (aq (bM (i:=2) OV.nd) (aq (bM (i:=3) OV.nd) bi))))
   (ae (aM (ak aY (pv 2) aj) (ag (am (av (aa aj (aa (ax ar (ap NK hr rfl (aa (pv 0) (aa (pv 3) (aa (av (aa aj ab)) ab)))) ai) ab))))) aw)
   (ag (am (ap NK hr rfl (aa (pv 0) (aa (pv 3) (aa (av (aa aj (aa aj ab))) ab))))))),?_⟩
  refine⟨_,rfl,p,_,rfl,NL.of hp,rfl,_,_,rfl,_,_,rfl,rfl,?_⟩;cases hG with
  |@top _ b i hm=>
   refine⟨_,rfl,rfl,_,rfl,bj (b_ rfl) ?_⟩;refine⟨_,rfl,_,rfl,N0,fun t1 nt=>?_⟩;have s1:=af (o:=.tup [.str SU]) nt;refine⟨d,ks,z,SU,t1,[SU],b,i,rfl,hN.same s1,hm,UM,.inr (NL.of ac),JF,fun t2 sq H2 s2 e2 e3=>?_⟩;refine⟨t2,_,_,_,rfl,rfl,NL.of e2,cn,N0,fun p4 n4=>?_⟩;have s4:=af (o:=.tup [.str T9,.ref sq]) n4;exact q _ _ ((s1.trans s2).trans s4) ⟨p4,_,rfl,ac,sq,rfl,s4 _ _ e3⟩
  |@pl _ b i hm=>
   refine⟨_,rfl,rfl,_,rfl,aN zk ?_⟩;refine⟨_,rfl,_,rfl,N0,fun t1 nt=>?_⟩;have s1:=af (o:=.tup [.str SU,.str S2]) nt;refine⟨d,ks,z,SU,t1,[SU,S2],b,i,rfl,hN.same s1,hm,UM,.inr (NL.of ac),zk,fun t2 sq H2 s2 e2 e3=>?_⟩;exact q _ _ (s1.trans s2) ⟨t2,_,rfl,e2,sq,rfl,e3⟩
  |@mk _ b i hm=>
   refine⟨_,rfl,rfl,_,rfl,aN zk ?_⟩;refine⟨_,rfl,_,rfl,N0,fun t1 nt=>?_⟩;have s1:=af (o:=.tup [.str SU,.str S2]) nt;refine⟨d,ks,z,S2,t1,[SU,S2],b,i,rfl,hN.same s1,hm,UM,.inr (NL.of ac),zk,fun t2 sq H2 s2 e2 e3=>?_⟩;exact q _ _ (s1.trans s2) ⟨t2,_,rfl,e2,sq,rfl,e3⟩
def xG:al [S7,Uo] [S7,Uo] (ah qC):=bH zk
def uT(F:N1 K "end_of" "end_of" qC f fd)(NK:Fn P w K mg base "need_known" 1 [S7,"name",TN] (cE K)):NN P w K mg base br 2 f fd [S7,Uo] ky:=by
 have ZZ:=xG
 walk_at "o"
 ·obtain⟨d,ks,v,e,e',rfl,hN,UM,⟨p,rfl,hp⟩,hG,q⟩:=h;refine⟨_,ae (aM (ak bX (ax ar (pv 1) ai) (av (aa aj (aa aj ab))) rfl) (ag (am (av (aa (ax ar (pv 1) ai) (aa (ax ar (ax ar (ap NK hr rfl (aa (pv 0) (aa (ax ar (pv 1) ai) (aa (av (aa aj ab)) ab)))) ai) ai) ab))))) aw)
   (ag (am (pv 1))),?_⟩
  have YF:∀z:Str,kU (.str z) [.str Uh,.str S_]=([Uh,S_]:UD).contains z:=fun z=>cZ z [Uh,S_];cases hG with
  |@w0 s hs=>
   have Vk:H p=some (.tup [.str s]):=hp;refine⟨_,rfl,p,_,_,_,rfl,rfl,NL.of Vk,bf,N0,fun t1 nt=>?_⟩;have s1:=af (o:=.tup [.str Uh,.str S_]) nt;refine⟨t1,_,rfl,.inr (NL.of ac),rfl,rfl,_,rfl,aN ?_ ⟨_,rfl,q _ _ s1 ⟨p,rfl,s1 _ _ Vk⟩⟩⟩;show kU (.str s) [.str Uh,.str S_]=false;rw[YF];simp only[JT,Kj,O_]at hs;rcases hs with rfl|rfl|rfl<;>decide +kernel
  |fault z=>
   have Vk:H p=some (.tup [.str S3,.str z]):=hp;refine⟨_,rfl,p,_,_,_,rfl,rfl,NL.of Vk,bf,N0,fun t1 nt=>?_⟩;have s1:=af (o:=.tup [.str Uh,.str S_]) nt;refine⟨t1,_,rfl,.inr (NL.of ac),rfl,rfl,_,rfl,aN ?_ ⟨_,rfl,q _ _ s1 ⟨p,rfl,s1 _ _ Vk⟩⟩⟩;show kU (.str S3) [.str Uh,.str S_]=false;decide +kernel
  |@go s z b i hs hm=>
   have Vk:H p=some (.tup [.str s,.str z]):=hp;refine⟨_,rfl,p,_,_,_,rfl,rfl,NL.of Vk,bf,N0,fun t1 nt=>?_⟩;have s1:=af (o:=.tup [.str Uh,.str S_]) nt;refine⟨t1,_,rfl,.inr (NL.of ac),rfl,rfl,_,rfl,bj ?_ ?_⟩
   ·show kU (.str s) [.str Uh,.str S_]=true;rw[YF];exact J8.mpr hs
   generalize az H t1 (.tup [V.str Uh,.str S_])=H1 at*;refine⟨_,rfl,p,_,_,_,rfl,rfl,NL.of (s1 _ _ Vk),bf,_,rfl,_,rfl,p,_,_,_,rfl,rfl,NL.of (s1 _ _ Vk),cn,N0,fun t2 nt2=>?_⟩;have s2:=af (o:=.tup [.str Tn]) nt2;refine⟨d,ks,z,Tn,t2,[Tn],b,i,rfl,hN.same (s1.trans s2),hm,UM,.inr (NL.of ac),JF,fun t3 sq H3 s3 e2 e3=>?_⟩;refine⟨t3,_,_,_,rfl,rfl,NL.of e2,cn,sq,_,_,_,rfl,rfl,NL.of e3,cn,N0,fun p4 n4=>?_⟩;exact q _ _ (((s1.trans s2).trans s3).trans (af n4)) ⟨p4,rfl,ac⟩
def Ou:al [S7,Ur,Uc,"yes",TB] [S7,Ur] (ah jz):=bH zk
def Jv:([Td,S7]:UD).Nodup:=by decide +kernel
def gj(F:N1 K "deed_of" "deed_of" jz f fd)(B:Bl mg)(TO:Fn P w K mg base "test_of" 2 [S7,Uc] ku)(EO:Fn P w K mg base "end_of" 2 [S7,Uo] ky)(SO:Fn P w K mg base "set_of" n [S7,Td] (mV m0))(DO:Fn P w K mg base "deed_of" n [S7,Ur] (ig m0 m))(hn:2<=n):NN P w K mg base br (n+1) f fd [S7,Ur] (ig m0 (m+1)):=by
 have ZZ:=Ou
 walk_at "o"
 ·obtain⟨d,ks,v,b,b',rfl,hN,UM,hV,hG,hD,hS,q⟩:=h;have K6:NZ 2 _:=hr.mono zo;refine⟨_,ae (aM (ak aY (ax ar (pv 1) ai) aj)
    (ae (bS (i:=2) Ou.nd (ap TO K6 rfl (aa (pv 0) (aa (ax ar (pv 1) ai) ab))))
    (ae (bS (i:=3) Ou.nd (ap DO hr rfl (aa (pv 0) (aa (ax ar (pv 1) ai) ab))))
    (ag (am (av (aa aj (aa (pv 2) (aa (pv 3) (aa (ap DO hr rfl (aa (pv 0) (aa (ax ar (pv 1) ai) ab))) ab))))))))) aw)
   (ae (bS (i:=4) Ou.nd (aV bh (by rfl) B.tuple aZ (aa (cI (N':=[Td,S7]) (ix:=[none,some 0]) (sc0:=ah jz) (N:=[S7,Ur,Uc,"yes",TB]) rfl zk (cK (ax ar (pv 1) ai))
     (fun C' cl s H fp=>bM (i:=0) Jv) (fun _ _ _ _ _=>bz) (fun C' cl s H fp=>ap SO hr rfl (aa (pv 1) (aa (pv 0) ab)))) ab)))
   (ag (am (av (aa aj (aa (pv 4) (aa (ap EO K6 rfl (aa (pv 0) (aa (ax ar (pv 1) ai) ab))) ab))))))),?_⟩
  cases hG with
  |@ite t z t' y n' y' n'' ht hy hn'=>
   obtain⟨p,u,a,bb,rfl,hp,hu,ha,hb⟩:=hV;cases m with
   |zero=>simp[BF]at hD
   |succ m=>
    have VX:BF y<=m/\BF n'<=m:=by
     simp only[BF]at hD;lia
    refine⟨_,rfl,p,_,_,_,rfl,rfl,NL.of hp,bf,rfl,_,rfl,bj (b_ rfl) ?_⟩;refine⟨_,rfl,_,rfl,p,_,_,_,rfl,rfl,NL.of hp,cn,d,ks,u,t,z,t',rfl,hN,UM,hu,ht,fun u1 H1 s1 v1=>?_⟩;refine⟨_,rfl,_,rfl,p,_,_,_,rfl,rfl,NL.of (s1 _ _ hp),ic,d,ks,a,y,y',rfl,hN.same s1,UM,ha.kt (ay s1),hy,VX.1,hS.1,fun u2 H2 s2 v2=>?_⟩;have Lc:=s1.trans s2;refine⟨_,rfl,_,rfl,_,rfl,_,rfl,p,_,_,_,rfl,rfl,NL.of (Lc _ _ hp),HN,d,ks,bb,n',n'',rfl,hN.same Lc,UM,hb.kt (ay Lc),hn',VX.2,hS.2,fun u3 H3 s3 v3=>⟨N0,fun p4 n4=>?_⟩⟩;have s4:=af (o:=.tup [.str Ut,u1,u2,u3]) n4;exact q _ _ ((Lc.trans s3).trans s4) ⟨p4,u1,u2,u3,rfl,ac,v1.kt (ay (s2.trans (s3.trans s4))),v2.kt (ay (s3.trans s4)),v3.kt (ay s4)⟩
  |@leaf s s' e e' hs he=>
   obtain⟨p,qs,us,u,rfl,hp,hq,K9,hu⟩:=hV;have sz:(1000:Nat)<=sizeLine:=by decide
   refine⟨_,rfl,p,_,_,_,rfl,rfl,NL.of hp,bf,rfl,_,rfl,aN zk ?_⟩;refine⟨_,rfl,p,_,_,_,rfl,rfl,NL.of hp,cn,qs,rfl,⟨_,NL.of hq⟩,?_⟩;have l1:=K9.length;have l2:=hs.length;have l4:=hS.2;refine iH (K:=K) (a:=qs) (xs:=us) (fun i ys H'=>NJ H H'/\ys.length=i/\i<=us.length/\Paired (fun v g=>OQ H' g v) ys (s'.take i)) ⟨NJ.refl _,rfl,JN _,.nil⟩ (fun i ys H' hi⟨a1,a2,a3,_⟩=>⟨NL.of (a1 _ _ hq),zo⟩) ?_ ?_
   ·rintro i x ys H1 hx ⟨s1,ly,hi,Ze⟩;obtain⟨g,hg,hgv⟩:=mP K9 hx;obtain⟨g',Wd,hgn⟩:=mP hs hg;have Ld:=(JA.mp hx).1;refine⟨⟨rfl,trivial⟩,bC ?_⟩;refine⟨_,rfl,_,rfl,d,ks,x,g,g',rfl,hN.same s1,UM,hgv.kt (ay s1),hgn,hS.1 g (JP hg),fun u2 H2 s2 v2=>?_⟩;refine Nx.mk Ld ⟨s1.trans s2,by rw[JH,ly];rfl,Ld,?_⟩;rw[Kh,Wd];exact ff (R:=fun v g=>OQ H2 g v) v2 (bW (R:=fun v g=>OQ H1 g v) (fun _ _ h=>h.kt (ay s2)) Ze)
   ·rintro ys H1 ⟨s1,ly,_,Ze⟩ lq Za;rw[show us.length=s'.length by lia,Kg]at Ze;generalize zz:az H1 lq _=H2;have s2:=(nw Za zz).1;have e2:H2 lq=some (.lst ys):=(nw Za zz).2;clear zz;refine⟨lq,_,rfl,.inl ⟨NQ.of e2,fun t nt=>?_⟩⟩;generalize zz:az H2 t _=H3;have s3:=(nw nt zz).1;have e3:H3 t=some (.tup ys):=(nw nt zz).2;clear zz;have Vj:=(s1.trans s2).trans s3;refine⟨_,rfl,_,rfl,_,rfl,p,_,_,_,rfl,rfl,NL.of (Vj _ _ hp),ic,d,ks,u,e,e',rfl,hN.same Vj,UM,hu.kt (ay Vj),he,fun u4 H4 s4 v4=>⟨N0,fun p5 n5=>?_⟩⟩;have s5:=af (o:=.tup [.str TD,.ref t,u4]) n5;exact q _ _ ((Vj.trans s4).trans s5) ⟨p5,t,ys,u4,rfl,ac,s5 _ _ (s4 _ _ e3),bW (R:=fun v g=>OQ H1 g v) (fun _ _ h=>h.kt (ay (s2.trans (s3.trans (s4.trans s5))))) Ze,v4.kt (ay s5)⟩
end
def tt(zs:UD):List (dm×V):=zs.map fun z=>(Sum.inr z,.bl true)
def BG:∀{zs:UD}{z:Str},z∉zs->eU (tt zs) (Sum.inr z)=none
 |[],_,_=>oV
 |x::zs,z,h=>by
  unfold tt;rw[J9,eI]
  ·exact BG (fun m=>h (JV _ m))
  ·intro e;exact h (by rw[<-Sv e];exact JF)
inductive PU(H:Hp)(u:V)(x:Kn):Prop
 |mk(p tf b us:_):u=.ref p->H p=some (.tup [.str x.name,.ref tf,b])->H tf=some (.tup us)->Paired (Ot H) us x.fs->QN H x.dd b->PU H u x
def PU.kt(k:N6 H H')(h:PU H u x):PU H' u x:=by obtain⟨p,tf,b,us,a,c,d,e,f⟩:=h;exact ⟨p,tf,b,us,a,k _ _ c,k _ _ d,bW (fun _ _ h=>h.kt k) e,f.kt k⟩
structure FN(ks:List Ne)(x:Kn):Prop where
 nd:((ks++fN x.fs).map (·.1)).Nodup
 l3:x.fs.length<=3
 bn:EQ (ks++fN x.fs) x.bd x.dd
 b3:BF x.bd<=3
 s3:tq 3 x.bd
inductive Dm(vs:UG)(H:Hp)(Q:VK)(Z3:XK):Prop
 |mk(d tk us ks K8:_):vs=[.ref d,.ref tk]->OJ H d ks->H tk=some (.tup us)->Paired (Oz H) us K8->(K8.map Kn.name).Nodup->(∀x∈K8,FN ks x)->ks.length<=10->K8.length<=8->(∀p us' H',NJ H H'->H p=none->H' p=some (.tup us')->Paired (PU H') us' K8->Q (.ref p) H')->Dm vs H Q Z3
structure NI(H:Hp)(K8:List Kn)(ln lt:Ux)(i:Nat)(H':Hp):Prop where
 sm:NJ H H'
 n1:H ln=none
 n2:H lt=none
 ne:ln≠lt
 ls:∃us,H' ln=some (.lst us)/\us.length=i/\Paired (PU H') us (K8.take i)
 tk:H' lt=some (.dK (tt ((K8.take i).map Kn.name)))
section
def P3:al [S7,TM,"named","taken","name",TU,Ur,TL] [S7,TM] (ah fG):=bH zk
def FP(F:N1 K "kinds_named" "kinds_named" fG f fd)(B:Bl mg)(NW:Fn P w K mg base "names_with_fields" 2 [S7,TU] xE)(DO:Fn P w K mg base "deed_of" n [S7,Ur] (ig 3 4))(hn:2<=n):NN P w K mg base br (n+1) f fd [S7,TM] Dm:=by
 have ZZ:=P3
 walk_at "o"
 ·obtain⟨d,tk,us,ks,K8,rfl,hN,ht,hk,UM,Wz,h10,h8,q⟩:=h;have hu:=lD hr;have K6:NZ 2 _:=hr.mono zo;have sz:(1000:Nat)<=sizeLine:=by decide
  refine⟨_,ae (bS (i:=2) P3.nd (bF ab))
   (ae (bS (i:=3) P3.nd j5)
   (ae (cv f_ rfl (cK (pv 1)) (bT rfl (aq (bM (i:=4) P3.nd) (aq (bM (i:=5) P3.nd) (aq (bM (i:=6) P3.nd) bi))))
    (ae (aM (lV (qw hu (pv 4) (pv 3))) (ag aU) aw)
    (ae (sM hu (pv 3) (pv 4) cq rfl)
    (ae (bS (i:=7) P3.nd (ap DO hr rfl (aa (ap NW K6 rfl (aa (pv 0) (aa (pv 5) ab))) (aa (pv 6) ab))))
    (ag (aQ (fe J7 J1 J0 cg (pv 2) (aa (av (aa (pv 4) (aa (pv 5) (aa (pv 7) ab)))) ab))))))))
   (ag (am (aV bh (by rfl) B.tuple aZ (aa (pv 2) ab)))))),?_⟩
  have lk:=hk.length;refine⟨N0,fun ln n1=>?_⟩;generalize zz:az H ln _=H1;have⟨s1,e1⟩:=nw n1 zz;clear zz;refine fun lt n2=>?_;have s2:=af (o:=.dK []) n2;have e2:(az H1 lt (.dK [])) lt=some (.dK []):=ac;have I0:NI H K8 ln lt 0 (az H1 lt (.dK [])):=⟨s1.trans s2,n1,s1.free n2,aI e1 n2,⟨[],s2 _ _ e1,rfl,.nil⟩,e2⟩;generalize az H1 lt (.dK ([]:List (dm×V)))=H2 at*;refine⟨_,rfl,tk,rfl,⟨_,NL.of (I0.sm _ _ ht)⟩,?_⟩;refine dJ (K:=K) (a:=tk) (xs:=us) (fun i σ H'=>∃v4 v5 v6 v7:Option V,σ=[some (.ref d),some (.ref tk),some (.ref ln),some (.ref lt),v4,v5,v6,v7]/\NI H K8 ln lt i H') ⟨_,_,_,_,rfl,I0⟩ (fun i σ H' _⟨_,_,_,_,_,I⟩=>NL.of (I.sm _ _ ht)) ?_ ?_
  ·rintro i x σ H3 hx ⟨v4,v5,v6,v7,rfl,I⟩;obtain⟨y,hy,hK⟩:=mP hk hx;have Ld:i<K8.length:=(JA.mp hy).1;have hyi:K8[i]=y:=(JA.mp hy).2;obtain⟨p,tf,b,fu,rfl,hp,Vb,Vc,hb⟩:=hK;have Wh:K8.take (i+1)=K8.take i++[y]:=by rw[Kh,hy];rfl
   have XS:y∈K8:=hyi▸K1 Ld;have Ww:y.name∉(K8.take i).map Kn.name:=by
    intro hm;have e5:K8=K8.take i++(y::K8.drop (i+1)):=by
     have:=(Kw i K8).symm;rw[Ka Ld,hyi]at this;exact this
    rw[e5,JR,J9]at UM;exact(List.nodup_append.mp UM).2.2 _ hm _ JF rfl
   have YO:=BG Ww;have g:N9 H3 lt (.str y.name) none:=by
    have:=N9.k (k:=Sum.inr y.name) I.tk;rw[YO]at this;exact this
   refine⟨p,_,rfl,NL.of (I.sm _ _ hp),rfl,_,_,rfl,_,_,rfl,_,_,rfl,rfl,?_⟩;refine⟨_,rfl,_,rfl,lt,_,rfl,g,_,rfl,bJ ?_⟩;have ltk:(tt ((K8.take i).map Kn.name)).length<=8:=by
    unfold tt;rw[JC,JC,JU];lia
   refine⟨_,rfl,_,rfl,lt,_,rfl,Oh.k (k:=Sum.inr y.name) I.tk zo,?_⟩;rw[oW _ YO];have et:tt ((K8.take i).map Kn.name)++[(Sum.inr y.name,V.bl true)]=tt ((K8.take (i+1)).map Kn.name):=by
    unfold tt;rw[Wh,JR,JR];rfl
   rw[et];obtain⟨Xl,e3,l3,p3⟩:=I.ls;have k4:N6 H3 (az H3 lt (.dK (tt ((K8.take (i+1)).map Kn.name)))):=BC I.tk;have s4:NJ H (az H3 lt (.dK (tt ((K8.take (i+1)).map Kn.name)))):=bq I.n2 I.sm;have e4:(az H3 lt (.dK (tt ((K8.take (i+1)).map Kn.name)))) ln=some (.lst Xl):=by rw[ao I.ne];exact e3
   have t4:(az H3 lt (.dK (tt ((K8.take (i+1)).map Kn.name)))) lt=some (.dK (tt ((K8.take (i+1)).map Kn.name))):=ac;have p4:=bW (fun _ _ h=>PU.kt k4 h) p3;generalize az H3 lt (.dK (tt ((K8.take (i+1)).map Kn.name)))=H4 at*;have hN4:OJ H4 d ks:=let⟨kv2,a,b2⟩:=hN;⟨kv2,s4 _ _ a,bW (fun _ _ h=>h.kt (ay s4)) b2⟩;refine⟨_,rfl,_,rfl,d,tf,fu,ks,y.fs,rfl,hN4,s4 _ _ Vb,bW (fun _ _ h=>h.kt (ay s4)) Vc,(Wz y XS).nd,by have:=(Wz y XS).l3;lia,fun d' H5 s5 WJ nm'=>?_⟩;have s45:=s4.trans s5;refine⟨_,rfl,d',ks++fN y.fs,b,y.bd,y.dd,rfl,nm',(Wz y XS).nd,hb.kt (ay s45),(Wz y XS).bn,(Wz y XS).b3,(Wz y XS).s3,fun b' H6 s6 Vr=>?_⟩;have X7:=s5.trans s6;have s06:=s4.trans X7;refine⟨_,rfl,.inl ⟨rfl,_,NQ.of (X7 _ _ e4)⟩,_,rfl,_,rfl,_,rfl,N0,fun pt Xp=>?_⟩;generalize zz:az H6 pt _=H7;have⟨s7,ept⟩:=nw Xp zz;clear zz;have e7:=s7 _ _ (X7 _ _ e4);have Xm:=s06.trans s7;refine⟨ln,_,_,rfl,rfl,e7,by rw[l3];lia,?_⟩;have k8:=sW (ys:=Xl++[V.ref pt]) e7;have k47:N6 H4 H7:=ay (X7.trans s7);refine⟨_,_,_,_,rfl,bq I.n1 Xm,I.n1,I.n2,I.ne,⟨Xl++[.ref pt],ac,by simp[l3],?_⟩,?_⟩
   ·rw[Wh];refine ff ⟨pt,tf,b',fu,rfl,k8 _ _ ept,k8 _ _ (Xm _ _ Vb),bW (fun _ _ h=>(h.kt (ay Xm)).kt k8) Vc,(Vr.kt (ay s7)).kt k8⟩ (bW (fun _ _ h=>(PU.kt k47 h).kt k8) p4)
   ·rw[ao I.ne.symm];exact s7 _ _ (X7 _ _ t4)
  ·rintro σ H3 ⟨v4,v5,v6,v7,rfl,I⟩;obtain⟨Xl,e3,l3,p3⟩:=I.ls;rw[lk,Kg]at p3;refine⟨_,rfl,ln,Xl,rfl,.inl ⟨NQ.of e3,fun p np=>?_⟩⟩;have s4:=af (o:=.tup Xl) np;exact q p Xl _ (I.sm.trans s4) (I.sm.free np) ac (bW (fun _ _ h=>PU.kt (ay s4) h) p3)
end
def c9(h:X.K=K)(hc:X.calm=true)(hg:E5 X es t)(hn:(assignEach es X.env).length=n:=by rfl)(Wb:(assignEach es X.env).findIdx? (·.1)=none:=by rfl):PG X (.Tuple es k pos) (Cd K n t):=by
 subst h;exact bT hc hg hn Wb
def FQ(vw vc vd vp vm vg:V)(pn pk:Ux):List (Str×V):=[(SV,vw),(S1,vc),(S9,vd),(SZ,vp),(S5,vm),(TQ,vg),(TM,.ref pn),(Tf,.ref pk)]
def HP:UD:=[SV,S1,S9,SZ,S5,TQ,TM,Tf]
structure Tc(K:ZF)(C:Ux):Prop where
 cl:Px K C
 na:∀f∈HP,N3 K C f
abbrev mW:Stmt:=bO jy 0
inductive mX(C:Ux)(vs:UG)(H:Hp)(Q:VK)(Z3:XK):Prop
 |mk(x dx vw vc vd vp vm vg pk us K8:_):vs=[.ref x,vw,vc,vd,vp,vm,vg,.ref pk]->H x=some (.ins C dx [])->H pk=some (.tup us)->Paired (PU H) us K8->K8.length<=8->(∀pn H',H' x=some (.ins C dx (FQ vw vc vd vp vm vg pn pk))->H pn=none->H' pn=some (.tup (aJ (K8.map Kn.name)))->NX x H H'->Q .non H')->mX C vs H Q Z3
section
def Ap:al [SN,SV,S1,S9,SZ,S5,TQ,Tf] [SN,SV,S1,S9,SZ,S5,TQ,Tf] (ah mW):=bH zk
def Do:(["name",TU,TL]:UD).Nodup:=by decide +kernel
def xH(F:N1 K "__init__" "Table.__init__" mW f fd)(T:Tc K C)(B:Bl mg):NN P w K mg base br 1 f fd [SN,SV,S1,S9,SZ,S5,TQ,Tf] (mX C):=by
 have ZZ:=Ap
 walk_at "o"
 ·obtain⟨x,dx,vw,vc,vd,vp,vm,vg,pk,us,K8,rfl,hx,hk,hp,h8,q⟩:=h;have sz:(1000:Nat)<=sizeLine:=by decide
  refine⟨_,(ae (bQ (pv 0) (pv 1) rfl)
   (ae (bQ (pv 0) (pv 2) rfl)
   (ae (bQ (pv 0) (pv 3) rfl)
   (ae (bQ (pv 0) (pv 4) rfl)
   (ae (bQ (pv 0) (pv 5) rfl)
   (ae (bQ (pv 0) (pv 6) rfl)
   (ae (bQ (pv 0) (aV bh (by rfl) B.tuple aZ (aa (cI (N':=["name",TU,TL]) (ix:=[none,none,none]) (sc0:=ah mW) (N:=[SN,SV,S1,S9,SZ,S5,TQ,Tf]) rfl zk (cK (pv 7)) (fun C' cl s H fp=>c9 (K:=K) (n:=3) rfl rfl (aq (bM (i:=0) Do) (aq (bM (i:=1) Do) (aq (bM (i:=2) Do) bi)))) (fun _ _ _ _ _=>bz) (fun C' cl s H fp=>pv 0)) ab)) rfl)
   (ag (bQ (pv 0) (pv 7) rfl))))))))),?_⟩
  have b0:NX x H H:=NX.refl _ _;refine⟨_,rfl,_,rfl,x,C,dx,_,rfl,hx,T.cl,T.na SV zk,(by show 0<1000;decide),?_⟩;have e1:(az H x (.ins C dx (aT SV vw []))) x=some (.ins C dx (aT SV vw [])):=ac;have b1:NX x H (az H x (.ins C dx (aT SV vw []))):=fun b o e nb=>by rw[ao nb];exact b0 _ _ e nb
  generalize az H x (.ins C dx (aT SV vw []))=H1 at*;refine⟨_,rfl,_,rfl,x,C,dx,_,rfl,e1,T.cl,T.na S1 zk,(by show 1<1000;decide),?_⟩;have e2:(az H1 x (.ins C dx (aT S1 vc (aT SV vw [])))) x=some (.ins C dx (aT S1 vc (aT SV vw []))):=ac;have b2:NX x H (az H1 x (.ins C dx (aT S1 vc (aT SV vw [])))):=fun b o e nb=>by rw[ao nb];exact b1 _ _ e nb
  generalize az H1 x (.ins C dx (aT S1 vc (aT SV vw [])))=H2 at*;refine⟨_,rfl,_,rfl,x,C,dx,_,rfl,e2,T.cl,T.na S9 zk,(by show 2<1000;decide),?_⟩;have e3:(az H2 x (.ins C dx (aT S9 vd (aT S1 vc (aT SV vw []))))) x=some (.ins C dx (aT S9 vd (aT S1 vc (aT SV vw [])))):=ac;have b3:NX x H (az H2 x (.ins C dx (aT S9 vd (aT S1 vc (aT SV vw []))))):=fun b o e nb=>by rw[ao nb];exact b2 _ _ e nb
  generalize az H2 x (.ins C dx (aT S9 vd (aT S1 vc (aT SV vw []))))=H3 at*;refine⟨_,rfl,_,rfl,x,C,dx,_,rfl,e3,T.cl,T.na SZ zk,(by show 3<1000;decide),?_⟩;have e4:(az H3 x (.ins C dx (aT SZ vp (aT S9 vd (aT S1 vc (aT SV vw [])))))) x=some (.ins C dx (aT SZ vp (aT S9 vd (aT S1 vc (aT SV vw []))))):=ac;have b4:NX x H (az H3 x (.ins C dx (aT SZ vp (aT S9 vd (aT S1 vc (aT SV vw [])))))):=fun b o e nb=>by rw[ao nb];exact b3 _ _ e nb
  generalize az H3 x (.ins C dx (aT SZ vp (aT S9 vd (aT S1 vc (aT SV vw [])))))=H4 at*;refine⟨_,rfl,_,rfl,x,C,dx,_,rfl,e4,T.cl,T.na S5 zk,(by show 4<1000;decide),?_⟩;have e5:(az H4 x (.ins C dx (aT S5 vm (aT SZ vp (aT S9 vd (aT S1 vc (aT SV vw []))))))) x=some (.ins C dx (aT S5 vm (aT SZ vp (aT S9 vd (aT S1 vc (aT SV vw [])))))):=ac;have b5:NX x H (az H4 x (.ins C dx (aT S5 vm (aT SZ vp (aT S9 vd (aT S1 vc (aT SV vw []))))))):=fun b o e nb=>by rw[ao nb];exact b4 _ _ e nb
  generalize az H4 x (.ins C dx (aT S5 vm (aT SZ vp (aT S9 vd (aT S1 vc (aT SV vw []))))))=H5 at*;refine⟨_,rfl,_,rfl,x,C,dx,_,rfl,e5,T.cl,T.na TQ zk,(by show 5<1000;decide),?_⟩;have e6:(az H5 x (.ins C dx (aT TQ vg (aT S5 vm (aT SZ vp (aT S9 vd (aT S1 vc (aT SV vw [])))))))) x=some (.ins C dx (aT TQ vg (aT S5 vm (aT SZ vp (aT S9 vd (aT S1 vc (aT SV vw []))))))):=ac;have b6:NX x H (az H5 x (.ins C dx (aT TQ vg (aT S5 vm (aT SZ vp (aT S9 vd (aT S1 vc (aT SV vw [])))))))):=fun b o e nb=>by rw[ao nb];exact b5 _ _ e nb
  generalize az H5 x (.ins C dx (aT TQ vg (aT S5 vm (aT SZ vp (aT S9 vd (aT S1 vc (aT SV vw [])))))))=H6 at*;have pkx:pk≠x:=by
   rintro rfl;rw[hk]at hx;cases hx
  have hk6:=b6 _ _ hk pkx;have k6:N6 H H6:=b6.kt hx;have Wu:=bW (fun _ _ h=>PU.kt k6 h) hp;have lk:=hp.length;refine⟨_,rfl,pk,rfl,⟨_,NL.of hk6⟩,?_⟩;refine iH (K:=K) (a:=pk) (xs:=us) (fun i ys H'=>H'=H6/\ys=aJ ((K8.take i).map Kn.name)) ⟨rfl,rfl⟩ (fun i ys H' hi⟨a1,a2⟩=>by
    subst a1 a2;refine⟨NL.of hk6,?_⟩;unfold aJ;rw[JC,JC,JU];lia) ?_ ?_
  ·rintro i z ys H' hz ⟨rfl,rfl⟩;obtain⟨y,hy,p,tf,bb,fu,rfl,T',_⟩:=mP Wu hz;have Ld:i<us.length:=(JA.mp hz).1;refine⟨p,_,rfl,NL.of T',rfl,_,_,rfl,_,_,rfl,_,_,rfl,rfl,trivial,bC ?_⟩;refine⟨_,rfl,Nx.mk Ld ⟨rfl,?_⟩⟩;rw[Kh,hy];unfold aJ;simp
  ·rintro ys H' ⟨rfl,rfl⟩ D hD;rw[lk,Kg];generalize zz:az H' D _=H7;have s7:=(nw hD zz).1;have e7:H7 D=some (.lst (aJ (K8.map Kn.name))):=(nw hD zz).2;clear zz;have x7:=s7 _ _ e6;refine⟨D,_,rfl,.inl ⟨NQ.of e7,fun pn Y'=>?_⟩⟩;generalize zz:az H7 pn _=H8;have s8:=(nw Y' zz).1;have e8:H8 pn=some (.tup (aJ (K8.map Kn.name))):=(nw Y' zz).2;clear zz;have x8:=s8 _ _ x7;have b8:=(b6.same s7).same s8;have nH:H pn=none:=h7 (b6.same s7) x7 Y';have pnx:pn≠x:=by
    rintro rfl;rw[nH]at hx;cases hx
   refine⟨_,rfl,x,C,dx,_,rfl,x8,T.cl,T.na TM zk,(by show 6<1000;decide),?_⟩;refine⟨_,rfl,_,rfl,x,C,dx,_,rfl,ac,T.cl,T.na Tf zk,(by show 7<1000;decide),?_⟩;refine q pn _ ?_ nH ?_ ?_
   ·rw[ac];rfl
   ·rw[ao pnx,ao pnx];exact e8
   ·intro b o e nb;rw[ao nb,ao nb];exact b8 _ _ e nb
end
def iy(st:Str)(l:UD):List Ne:=l.mapIdx fun i z=>(z,st,false,i)
def qZ(st:Str)(l:UD)(i:Nat):(iy st l)[i]?=l[i]?.map fun z=>(z,st,false,i):=by unfold iy;rw[List.getElem?_mapIdx]
def dY(st:Str)(l:UD):(iy st l).length=l.length:=by unfold iy;simp
def iY(D:Fm):List Ne:=iy SU D.places++iy S2 D.marks
def pz(D:Fm):V:=match D.gates with
 |[]=>.non
 |z::_=>.str z
structure rf(D:Fm):Prop where
 nd:((iY D).map (·.1)).Nodup
 gt:∀z∈D.gates,z∈D.marks
 g1:D.gates.length<=1
 kn:(D.kinds.map Kn.name).Nodup
 kf:∀x∈D.kinds,FN (iY D) x
 p4:D.places.length<=4
 m3:D.marks.length<=3
 k8:D.kinds.length<=8
inductive Op(C:Ux)(H:Hp)(v:V)(D:Fm):Prop
 |mk(a dx pp pm pn pk us:_):v=.ref a->H a=some (.ins C dx (FQ (.int D.width) (.int D.cells) (.int D.depth) (.ref pp) (.ref pm) (pz D) pn pk))->H pp=some (.tup (aJ D.places))->H pm=some (.tup (aJ D.marks))->H pn=some (.tup (aJ (D.kinds.map Kn.name)))->H pk=some (.tup us)->Paired (PU H) us D.kinds->Op C H v D
inductive Dp(C:Ux)(vs:UG)(H:Hp)(Q:VK)(Z3:XK):Prop
 |mk(u D:_):vs=[u]->xB H u D->rf D->(∀v H',NJ H H'->Op C H' v D->Q v H')->Dp C vs H Q Z3
def xI{A B:List Ne}{x:Ne}(h:((A++x::B).map (·.1)).Nodup):x.1∉A.map (·.1):=by
 rw[JR,J9]at h;intro hm;exact(List.nodup_append.mp h).2.2 _ hm _ JF rfl
section
def Ol:al ["form",SV,S1,S9,SZ,S5,"gates",TM,S7,"i","name",TQ,Tf] ["form"] (ah eW):=bH zk
inductive xJ(p:Ux)(D:Fm)(pp:Ux)(pm:Ux)(pg:Ux)(pk:Ux)(H:Hp)(σ:St)(H':Hp):Prop
 |mk(d:Ux)(v9 Vf Vy VT:Option V):σ=[some (.ref p),some (.int D.width),some (.int D.cells),some (.int D.depth),some (.ref pp),some (.ref pm),some (.ref pg),some (.ref pk),some (.ref d),v9,Vf,Vy,VT]->H d=none->NJ H H'->OJ H' d (iy SU D.places)->xJ p D pp pm pg pk H σ H'
inductive xK(p:Ux)(D:Fm)(pp:Ux)(pm:Ux)(pg:Ux)(pk:Ux)(H:Hp)(σ:St)(H':Hp):Prop
 |mk(d:Ux)(v9 Vf Vy VT:Option V):σ=[some (.ref p),some (.int D.width),some (.int D.cells),some (.int D.depth),some (.ref pp),some (.ref pm),some (.ref pg),some (.ref pk),some (.ref d),v9,Vf,Vy,VT]->H d=none->NJ H H'->OJ H' d (iY D)->xK p D pp pm pg pk H σ H'
inductive xL(p:Ux)(D:Fm)(pp:Ux)(pm:Ux)(pg:Ux)(pk:Ux)(H:Hp)(σ:St)(H':Hp):Prop
 |mk(d:Ux)(v9 Vf Vy VT:Option V):σ=[some (.ref p),some (.int D.width),some (.int D.cells),some (.int D.depth),some (.ref pp),some (.ref pm),some (.ref pg),some (.ref pk),some (.ref d),v9,Vf,Vy,VT]->Vy=some (pz D)->H d=none->NJ H H'->OJ H' d (iY D)->xL p D pp pm pg pk H σ H'
def FR{f:Ux}{fd Wg:UC}{n:Nat}(F:N1 K "table_of_form" "table_of_form" eW f fd)(B:Bl mg)(B3:BE mg)(MK:Mk K C fi)(mgT:mg "Table"=some (.ref C))(IN:NN P w K mg base br 1 fi Wg [SN,SV,S1,S9,SZ,S5,TQ,Tf] (mX C))(bI:N7 K Wg [SN,SV,S1,S9,SZ,S5,TQ,Tf] [])
  (AN:Fn P w K mg base "add_name" 1 [S7,"name",Tg,Tu] gh) (NK:Fn P w K mg base "need_known" 1 [S7,"name",TN] (cE K)) (KN:Fn P w K mg base "kinds_named" n [S7,TM] Dm) (hn:3<=n):NN P w K mg base br (n+1) f fd ["form"] (Dp C):=by
 have ZZ:=Ol
 walk_at "o"
 ·obtain⟨u,D,rfl,⟨p,pp,pm,pg,pk,us,rfl,hp,T',UK,Vg,Wt,K9⟩,hD,q⟩:=h;have K5:NZ 1 _:=hr.mono zo;have K6:NZ 2 _:=hr.mono zo;have sz:(1000:Nat)<=sizeLine:=by decide
  refine⟨_,ae (cu (pv 0) (bT rfl (aq (bM (i:=1) Ol.nd) (aq (bM (i:=2) Ol.nd) (aq (bM (i:=3) Ol.nd) (aq (bM (i:=4) Ol.nd) (aq (bM (i:=5) Ol.nd) (aq (bM (i:=6) Ol.nd) (aq (bM (i:=7) Ol.nd) bi)))))))))
   (ae (bS (i:=8) Ol.nd j5)
   (dX (xJ p D pp pm pg pk H) (cv f_ rfl (j7 rfl B3.enumerate (aa (pv 4) ab)) (bT rfl (aq (bM (i:=9) Ol.nd) (aq (bM (i:=10) Ol.nd) bi))) (ag (aQ (ap AN K5 rfl (aa (pv 8) (aa (pv 10) (aa aj (aa (av (aa aj (aa (pv 9) ab))) ab))))))))
   (dX (xK p D pp pm pg pk H) (cv f_ rfl (j7 rfl B3.enumerate (aa (pv 5) ab)) (bT rfl (aq (bM (i:=9) Ol.nd) (aq (bM (i:=10) Ol.nd) bi))) (ag (aQ (ap AN K5 rfl (aa (pv 8) (aa (pv 10) (aa aj (aa (av (aa aj (aa (pv 9) ab))) ab))))))))
   (ae (bS (i:=11) Ol.nd cN)
   (dX (xL p D pp pm pg pk H) (cv f_ rfl (cK (pv 6)) (bM (i:=10) Ol.nd) (ae (aQ (ap NK K5 rfl (aa (pv 8) (aa (pv 10) (aa (av (aa aj ab)) ab))))) (ag (bS (i:=11) Ol.nd (pv 10)))))
   (ae (bS (i:=12) Ol.nd (ap KN hr rfl (aa (pv 8) (aa (pv 7) ab))))
   (ag (am (gU MK IN K6 rfl mgT bI .nil dR (aa (pv 1) (aa (pv 2) (aa (pv 3) (aa (pv 4) (aa (pv 5) (aa (pv 11) (aa (pv 12) ab)))))))))))))))),?_⟩
  refine⟨_,rfl,p,_,rfl,NL.of hp,rfl,_,_,rfl,_,_,rfl,_,_,rfl,_,_,rfl,_,_,rfl,_,_,rfl,_,_,rfl,rfl,?_⟩;refine fun d nd=>?_;have s1:=af (o:=.dK []) nd;have I1:OJ (az H d (.dK [])) d []:=⟨[],ac,.nil⟩;generalize az H d (.dK ([]:List (dm×V)))=H1 at*;refine⟨?_,?_⟩
  ·rintro σ H2 ⟨d,v9,Vf,Vy,VT,rfl,nd,s2,I2⟩;refine⟨?_,?_⟩
   ·rintro σ H3 ⟨d,v9,Vf,Vy,VT,rfl,nd,s3,I3⟩;refine⟨?_,?_⟩
    ·rintro σ H4 ⟨d,v9,Vf,Vy,VT,rfl,rfl,nd,s4,I4⟩;refine⟨_,rfl,_,rfl,d,pk,us,iY D,D.kinds,rfl,I4,s4 _ _ Wt,bW (fun _ _ h=>Oz.kt (ay s4) h) K9,hD.kn,hD.kf,?_,hD.k8,fun p5 us5 H5 s5 n5 e5 k5=>?_⟩
     ·unfold iY;rw[JH,dY,dY];have:=hD.p4;have:=hD.m3;lia
     have W9:=s4.trans s5;refine⟨_,rfl,_,rfl,_,rfl,_,rfl,_,rfl,_,rfl,_,rfl,fun x dx nx ndx ne=>?_⟩;refine⟨x,dx,_,_,_,_,_,_,p5,us5,D.kinds,rfl,ac,(bq nx (af ndx)) _ _ e5,bW (fun _ _ h=>PU.kt (ay (bq nx (af ndx))) h) k5,hD.k8,fun pn H7 e7 Y' epn b7=>⟨rfl,?_⟩⟩;have VH:NJ H5 H7:=cD nx (bq nx (af ndx)) b7;have Xm:=W9.trans VH;exact q _ _ Xm ⟨x,dx,pp,pm,pn,p5,us5,rfl,e7,Xm _ _ T',Xm _ _ UK,epn,VH _ _ e5,bW (fun _ _ h=>PU.kt (ay VH) h) k5⟩
    ·refine⟨_,rfl,pg,rfl,⟨_,NL.of (s3 _ _ Vg)⟩,?_⟩;refine dJ (K:=K) (a:=pg) (xs:=aJ D.gates) (fun i σ H'=>∃(v9 Vf Vy VT:Option V),σ=[some (.ref p),some (.int D.width),some (.int D.cells),some (.int D.depth),some (.ref pp),some (.ref pm),some (.ref pg),some (.ref pk),some (.ref d),v9,Vf,Vy,VT]/\Vy=some (if i=0 then .non else pz D)/\NJ H H'/\OJ H' d (iY D)) ⟨_,_,_,_,rfl,rfl,s3,I3⟩ (fun i σ H' _⟨_,_,_,_,_,_,s',_⟩=>NL.of (s' _ _ Vg)) ?_ ?_
     ·rintro i x σ Ha hx ⟨w9,Xk,X2,X1,rfl,rfl,sa,Ia⟩;have hg1:=hD.g1;have hgt:=hD.gt;have V8:i<(aJ D.gates).length:=(JA.mp hx).1;unfold aJ at hx V8;rw[JC]at V8;cases Wx:D.gates with
      |nil=>rw[Wx]at V8;simp at V8
      |cons z r=>
       rw[Wx]at hx V8 hg1 hgt;have hi0:i=0:=by simp only[JX]at hg1 V8;lia
       subst hi0;have exz:x=.str z:=by simpa using hx.symm
       subst exz;have hzm:=hgt z JF;refine⟨_,rfl,_,rfl,N0,fun t nt=>?_⟩;have sb:=af (o:=.tup [.str S2]) nt;obtain⟨gi,hgi⟩:=List.getElem?_of_mem hzm;refine⟨d,iY D,z,S2,t,[S2],false,gi,rfl,Ia.same sb,?_,hD.nd,.inr (NL.of ac),by simp,fun qq sl Hb sc eb _=>?_⟩
       ·exact JE _ (JP (by rw[qZ,hgi];rfl))
       refine⟨_,rfl,_,_,_,_,rfl,?_,(sa.trans sb).trans sc,(Ia.same sb).same sc⟩;rw[e_ zo];unfold pz;rw[Wx]
     ·rintro σ Ha ⟨w9,Xk,X2,X1,rfl,rfl,sa,Ia⟩;refine⟨d,_,_,_,_,rfl,?_,nd,sa,Ia⟩;have YE:(aJ D.gates).length=D.gates.length:=by unfold aJ;rw[JC]
      rw[YE];cases Wx:D.gates with
      |nil=>
       unfold pz;rw[Wx];rfl
      |cons z r=>rw[e_ (by simp)]
   ·refine⟨_,rfl,pm,rfl,⟨_,NL.of (s2 _ _ UK)⟩,?_⟩;refine iI (K:=K) (l:=pm) (xs:=aJ D.marks) (fun i σ H'=>∃(v9 Vf Vy VT:Option V),σ=[some (.ref p),some (.int D.width),some (.int D.cells),some (.int D.depth),some (.ref pp),some (.ref pm),some (.ref pg),some (.ref pk),some (.ref d),v9,Vf,Vy,VT]/\NJ H H'/\OJ H' d (iy SU D.places++(iy S2 D.marks).take i)) ⟨_,_,_,_,rfl,s2,by simpa using I2⟩ (fun i σ H' _⟨_,_,_,_,_,s',_⟩=>NL.of (s' _ _ UK)) ?_ ?_
    ·rintro i x σ Ha T1 hx nT ⟨w9,Xk,X2,X1,rfl,sa,Ia⟩;obtain⟨z,hz,rfl⟩:∃z,D.marks[i]?=some z/\x=.str z:=by
      unfold aJ at hx;rw[J5]at hx;cases hh:D.marks[i]? with
      |none=>rw[hh]at hx;cases hx
      |some z=>rw[hh]at hx;exact⟨z,rfl,(JS hx).symm⟩
     have Ld:i<D.marks.length:=(JA.mp hz).1;have hzi:D.marks[i]=z:=(JA.mp hz).2;have sb:=af (o:=.tup [.int (i:Int),.str z]) nT;refine⟨T1,_,rfl,NL.of ac,rfl,_,_,rfl,_,_,rfl,rfl,?_⟩;refine⟨_,rfl,_,rfl,_,rfl,N0,fun t nt=>?_⟩;have sc:=af (o:=.tup [.str "is",.int (i:Int)]) nt;have ZU:=sa.trans (sb.trans sc);have Yg:(iy S2 D.marks)[i]?=some (z,(S2:Str),false,i):=by rw[qZ,hz];rfl
     have VP:i<(iy S2 D.marks).length:=by rw[dY];exact Ld
     have Wh:(iy S2 D.marks).take (i+1)=(iy S2 D.marks).take i++[(z,(S2:Str),false,i)]:=by rw[Kh,Yg];rfl
     refine⟨d,_,z,S2,t,false,i,rfl,Ia.same (sb.trans sc),ac,?_,?_,fun Hb Ib bb=>⟨_,_,_,_,rfl,cD nd ZU bb,?_⟩⟩
     ·have hh:=hD.nd;have e5:iY D=(iy SU D.places++(iy S2 D.marks).take i)++((z,(S2:Str),false,i)::(iy S2 D.marks).drop (i+1)):=by
       have:=(Kw i (iy S2 D.marks)).symm;rw[Ka VP,(JA.mp Yg).2]at this;unfold iY;rw[JY];exact i_ (iy SU D.places++·) this
      rw[e5]at hh;exact xI hh
     ·simp only[JH,dY,JU,KO];have:=hD.p4;have:=hD.m3;lia
     ·rw[Wh,<-JY];exact Ib
    ·rintro σ Ha ⟨w9,Xk,X2,X1,rfl,sa,Ia⟩;have YE:(aJ D.marks).length=D.marks.length:=by unfold aJ;rw[JC]
     rw[YE,<-dY S2,Kg]at Ia;exact⟨d,_,_,_,_,rfl,nd,sa,Ia⟩
  ·refine⟨_,rfl,pp,rfl,⟨_,NL.of (s1 _ _ T')⟩,?_⟩;refine iI (K:=K) (l:=pp) (xs:=aJ D.places) (fun i σ H'=>∃(v9 Vf Vy VT:Option V),σ=[some (.ref p),some (.int D.width),some (.int D.cells),some (.int D.depth),some (.ref pp),some (.ref pm),some (.ref pg),some (.ref pk),some (.ref d),v9,Vf,Vy,VT]/\NJ H H'/\OJ H' d ([]++(iy SU D.places).take i)) ⟨_,_,_,_,rfl,s1,by simpa using I1⟩ (fun i σ H' _⟨_,_,_,_,_,s',_⟩=>NL.of (s' _ _ T')) ?_ ?_
   ·rintro i x σ Ha T1 hx nT ⟨w9,Xk,X2,X1,rfl,sa,Ia⟩;obtain⟨z,hz,rfl⟩:∃z,D.places[i]?=some z/\x=.str z:=by
     unfold aJ at hx;rw[J5]at hx;cases hh:D.places[i]? with
     |none=>rw[hh]at hx;cases hx
     |some z=>rw[hh]at hx;exact⟨z,rfl,(JS hx).symm⟩
    have Ld:i<D.places.length:=(JA.mp hz).1;have hzi:D.places[i]=z:=(JA.mp hz).2;have sb:=af (o:=.tup [.int (i:Int),.str z]) nT;refine⟨T1,_,rfl,NL.of ac,rfl,_,_,rfl,_,_,rfl,rfl,?_⟩;refine⟨_,rfl,_,rfl,_,rfl,N0,fun t nt=>?_⟩;have sc:=af (o:=.tup [.str "is",.int (i:Int)]) nt;have ZU:=sa.trans (sb.trans sc);have Yg:(iy SU D.places)[i]?=some (z,(SU:Str),false,i):=by rw[qZ,hz];rfl
    have VP:i<(iy SU D.places).length:=by rw[dY];exact Ld
    have Wh:(iy SU D.places).take (i+1)=(iy SU D.places).take i++[(z,(SU:Str),false,i)]:=by rw[Kh,Yg];rfl
    refine⟨d,_,z,SU,t,false,i,rfl,Ia.same (sb.trans sc),ac,?_,?_,fun Hb Ib bb=>⟨_,_,_,_,rfl,cD nd ZU bb,?_⟩⟩
    ·have hh:=hD.nd;have e5:iY D=([]++(iy SU D.places).take i)++((z,(SU:Str),false,i)::(iy SU D.places).drop (i+1)++iy S2 D.marks):=by
      have:=(Kw i (iy SU D.places)).symm;rw[Ka VP,(JA.mp Yg).2]at this;unfold iY;rw[KS,<-JY];exact i_ (·++iy S2 D.marks) this
     rw[e5]at hh;exact xI hh
    ·simp only[JH,dY,JU,KO];have:=hD.p4;have:=hD.m3;lia
    ·rw[Wh,<-JY];exact Ib
   ·rintro σ Ha ⟨w9,Xk,X2,X1,rfl,sa,Ia⟩;have YE:(aJ D.places).length=D.places.length:=by unfold aJ;rw[JC]
    rw[YE,<-dY SU,Kg]at Ia;exact⟨d,_,_,_,_,rfl,nd,sa,by simpa using Ia⟩
end
end L3
namespace PySem
open Sem (wp)
section
open PySem.SeqAt
open PySem.AutoSeq1 (wpAny_loadPart')
open PySem.MeetsSeq PySem.MeetsSeq2 PySem.MeetsSeq3
def OK(f:Nat->β->Sem (ForInStep β))(I:UE->β->Uy->Prop)(Q:β->Uy->Prop)
  (UU:∀(x:Nat)(A':UE)(b:β)(s:Uy),I (x::A') b s->wpAny M A (f x b) (fun r s'=>match r with|.yield b'=>I A' b' s'|.done b'=>Q b' s') E s)
  (P':∀(b:β)(s:Uy),I [] b s->Q b s) (r:Std.Legacy.Range) (b:β) (h:I (List.range' r.start r.size r.step) b s):wpAny M A (forIn r b f) Q E s:=by
 rw[Std.Legacy.Range.forIn_eq_forIn_range'];exact wpAny_forIn_list f I Q UU P' _ b h
def O3(l:Ux)(Lf:Array Uw)(n:Nat)(dd:Option Ux)(sl:Array (Option Uw))(x:Uw)(e:Uw->Bool)(j:Nat)(hj:j<Lf.size)(he:e Lf[j]=true)(hn:∀(m:Nat)(hm:m<Lf.size),m<j->e Lf[m]=false):
  Meets (Builtin.«tuple.index» ⟨[.ref l,x],[]⟩) (fun A R s=>s.heap.get? l=some {cls:=.type "tuple",dict:=dd,data:=.seq Lf n,slots:=sl}/\(∀y∈Lf,EqAt A.in1 s y x (e y))/\∀t k,R (.ok (.ret (.int j t))) {s with toks:=k}):=
 .of_wp fun prog w A R s h=>by
  obtain⟨hp,g,d,tk,os⟩:=s;obtain⟨hl,hb,h⟩:=h
  wp_walk using I_ hl,OK _ (fun A' b s'=>b.1=none/\s'=⟨hp,g,d,tk,os⟩/\∃k,A'=List.range' k (Lf.size-k)/\k<=j) _
  case UU=>
   rintro i A' b s' ⟨Vr,rfl,k,hr,hk⟩;have hz:Lf.size-k=(Lf.size-(k+1))+1:=by lia
   rw[hz,List.range'_succ]at hr;injection hr with h1 h2;subst h1;have hki:i<Lf.size:=by lia
   have hg:Lf[i]?=some Lf[i]:=by simp[hki]
   rw[hg];have hq:=hb Lf[i] (by simp);refine a_ (hq prog w _ _ ?_);by_cases hij:i=j
   ·subst hij;rw[he]
    wp_walk
    exact⟨_,rfl,h _ _⟩
   ·rw[hn i hki zo]
    wp_walk
    exact⟨rfl,rfl,i+1,h2,zo⟩
  case P'=>
   rintro b s' ⟨Vr,rfl,k,hr,hk⟩;have hz:Lf.size-k=(Lf.size-(k+1))+1:=by lia
   rw[hz,List.range'_succ]at hr;cases hr
  case h=>
   refine⟨rfl,rfl,0,?_,JN _⟩;simp[Std.Legacy.Range.size]
end
end PySem
namespace L2
open PySem PySem.Spec PyProof.Rows
section
def pB:GW X "tuple.index" (fun x xs H Q=>∃(p:Ux)(zs:UD)(z:Str)(j:Nat),x=.ref p/\xs=[.str z]/\NL X.K H p (zs.map V.str)/\zs[j]?=some z/\(∀m,m<j->zs[m]?≠some z)/\Q (.int (j:Nat)) H):=by
 intro K3 s σ H x xs v us Q I rx rv h;obtain⟨p,zs,z,j,rfl,rfl,hS,hj,hn,q⟩:=h;cases rx;obtain⟨u,rfl,ru⟩:=rv.one;obtain⟨f',r,pl,hz⟩:=I.tuple hS;have WA:(zs.map V.str).all gr=true:=by
  rw[Sr];exact Ki.mpr fun _ _=>rfl
 have K4:=r.length;rw[JC]at K4;have hjl:j<zs.length:=(JA.mp hj).1;have ev:∀m(hm:m<f'.toArray.size),oO (.str z) f'.toArray[m]=decide (zs[m]?=some z):=fun m hm=>by
  have hm':m<zs.length:=by rw[K4];simpa using hm
  obtain⟨w,ew,Vp⟩:=r.get (i:=m) (x:=.str zs[m]) (by simp[hm']);have e2:f'.toArray[m]=w:=by
   have:=(JA.mp ew).2;simpa using this
  rw[e2,qm Vp rfl,Kd hm'];show uy (.str zs[m]) (.str z)=_;by_cases hh:zs[m]=z
  ·simp[hh,uy]
  ·simp[hh,uy]
 obtain⟨o,there,Yf,n,Ye⟩:=pl;cases o with
 |mk oc od odt U7=>
  dsimp only at Yf Ye;subst Yf Ye;refine R3 F.slot_tuple_index ⟨_,there,rfl⟩ F.entry_tuple_index (F.args_tuple_index_2 _ _) (O3 p f'.toArray n od U7 u (oO (.str z)) j (by simpa[<-K4]using hjl) ?_ ?_) ⟨there,fun w hw=>eC ru rfl r WA w (by simpa using hw),fun t k=>⟨.int j,H,I.tok _,⟨t,rfl⟩,q⟩⟩
  ·rw[ev,hj];simp
  ·intro m hm hmj;rw[ev];simpa using hn m hmj
end
end L2
namespace PySem
section
open Sem (wp)
def N5:Bool->Heap->Ux->Ux->Nat->Prop
 |true,h,it,l,i=>h.IsTupleIter it l i
 |false,h,it,l,i=>h.IsListIter it l i
def N8:Bool->Heap->Ux->Array Uw->Prop
 |true,h,l,xs=>h.IsTuple l xs
 |false,h,l,xs=>h.IsList l xs
def N5.at(a:N5 b h it l i)(k:∀o,h.get? it=some o->h'.get? it=some o):N5 b h' it l i:=by
 cases b with
 |true=>exact(let⟨o,x,y⟩:=a;⟨o,k o x,y⟩:h'.IsTupleIter it l i)
 |false=>exact(let⟨o,x,y⟩:=a;⟨o,k o x,y⟩:h'.IsListIter it l i)
def N8.at(a:N8 b h l xs)(k:∀o,h.get? l=some o->h'.get? l=some o):N8 b h' l xs:=by
 cases b with
 |true=>exact(let⟨o,x,y⟩:=a;⟨o,k o x,y⟩:h'.IsTuple l xs)
 |false=>exact(let⟨o,x,y⟩:=a;⟨o,k o x,y⟩:h'.IsList l xs)
def N5.some(a:N5 b h it l i):∃o,h.get? it=some o/\∀v,o.data≠.cell v:=by
 cases b with
 |true=>exact(let⟨o,x,_,z⟩:=a;⟨o,x,fun v q=>by rw[z]at q;cases q⟩)
 |false=>exact(let⟨o,x,_,z⟩:=a;⟨o,x,fun v q=>by rw[z]at q;cases q⟩)
section
def OZ(US:N5 b s.heap it l i)(hl:N8 b s.heap l Lf)(hx:Lf[i]?=some x)
  (hQ:∀h',N5 b h' it l (i+1)->Heap.SameBut it s.heap h'->Q x {s with heap:=h'}):wpAny (model prog w) A (Builtin.SmallTypes.nextOf (.ref it)) Q E s:=by
 cases b with
 |true=>exact Oc US hl hx hQ
 |false=>exact wpAny_nextOf_list_item US hl hx hQ
def Qj(hh:A.handled=none)(US:N5 b s.heap it l i)(hl:N8 b s.heap l Lf)(hx:Lf[i]?=none)
  (hE:∀h' e,Heap.ExtBut it s.heap h'->(∃o,h'.get? e=some o/\o.cls=.type "StopIteration")->E (.ref e) {s with heap:=h'}):wpAny (model prog w) A (Builtin.SmallTypes.nextOf (.ref it)) Q E s:=by
 cases b with
 |true=>exact nextOf_tuple_end hh US hl hx hE
 |false=>exact wpAny_nextOf_list_end hh US hl hx hE
def Ql{b1 b2:Bool}{z TI TO i1 i2 l1 l2:Ux}{k1 k2:Nat}{xs ys:Array Uw}{x y a b:Uw}{Q:Uw->Uy->Prop}(D:ZipApart z TI TO i1 i2 l1 l2)(hz:IsZip s.heap z TI TO .none)(Vs:IsPair s.heap TI (.ref i1) (.ref i2))(VM:IsPair s.heap TO a b)
  (h1:N5 b1 s.heap i1 l1 k1) (h2:N5 b2 s.heap i2 l2 k2) (q1:N8 b1 s.heap l1 xs) (q2:N8 b2 s.heap l2 ys) (hx:xs[k1]?=some x) (hy:ys[k2]?=some y)
  (hQ:∀h',IsZip h' z TI TO (rawInt s.heap.objs.size)->IsPair h' TO x y->N5 b1 h' i1 l1 (k1+1)->N5 b2 h' i2 l2 (k2+1)->IsPair h' s.heap.objs.size x y->h'.objs.size=s.heap.objs.size+1->
   (∀c o,c≠z->c≠TO->c≠i1->c≠i2->s.heap.get? c=some o->h'.get? c=some o)->Q (.ref s.heap.objs.size) {s with heap:=h'}) :
  wpAny (model prog w) A (Builtin.«zip.__next__» ⟨[.ref z],[]⟩) (fun P' s'=>∃v,P'=.done (.ret v)/\Q v s') E s:=by
 show wpAny _ _ (field (.ref z) 2>>=_) _ _ s;refine a_ (r_ hz rfl (x:=.bool false) rfl ?_);show wpAny _ _ (field (.ref z) 3>>=_) _ _ s;refine a_ (r_ hz rfl (x:=.ref TI) rfl ?_);refine a_ (A_ Vs rfl ?_);show wpAny _ _ (Builtin.SmallTypes.ownedTupleIsFree (.ref z)>>=_) _ _ s;refine a_ ?_;unfold Builtin.SmallTypes.ownedTupleIsFree;refine a_ (r_ hz rfl (x:=.none) rfl (c_ ?_));show wpAny _ _ (rule "zip.__next__.owned-tuple-again" >>= _) _ _ s;refine a_ (R1 (a_ (r_ hz rfl (x:=.ref TO) rfl ?_)));show wpAny _ _ (setField (.ref z) 0 .ellipsis>>=_) _ _ s;refine a_ (y_ hz rfl (by simp) ?_);have u1:=m_ s.heap z (Obj.mapFields fun M'=>M'.setIfInBounds 0 Value.ellipsis);have z1:=n_ (Obj.mapFields fun M'=>M'.setIfInBounds 0 Value.ellipsis) hz rfl;generalize s.heap.update z (Obj.mapFields fun M'=>M'.setIfInBounds 0 Value.ellipsis)=Vn at*;show wpAny _ _ (forIn [(Value.ref i1,0),(Value.ref i2,1)] _ _>>=_) _ _ _;refine a_ ?_;rw[M_];refine a_ ?_;show wpAny _ _ (Sem.onRaise _ _>>=_) _ _ _;refine a_ (wpAny_onRaise ?_);show wpAny _ _ (Builtin.SmallTypes.nextOf (.ref i1)>>=_) _ _ _;have e1:∀c o,c≠z->s.heap.get? c=some o->Vn.get? c=some o:=fun c o n q=>(u1.2 c n).trans q;refine a_ (OZ (h1.at fun o q=>e1 _ o D.i1z q) (q1.at fun o q=>e1 _ o D.l1z q) hx fun UT it2 u2=>c_ ?_);dsimp only at u2;have e2:∀c o,c≠z->c≠i1->s.heap.get? c=some o->UT.get? c=some o:=fun c o n n' q=>(u2.2 c n').trans (e1 c o n q);have o2:UT.get? TO=some {cls:=.type "tuple",data:=.seq #[a,b]}:=e2 _ _ D.TOz D.TOi1 VM;show wpAny _ _ (seqItems? (.ref TO)>>=_) _ _ _;refine a_ (A_ o2 rfl ?_);show wpAny _ _ (updateSeq TO _>>=_) _ _ _;refine a_ (wpAny_updateSeq o2 rfl ?_ N0 (by show 2<=sizeLine+1;decide));refine a_ (wpAny_letGo (c_ ?_));have u3:=m_ UT TO (Obj.mapSeq fun M'=>M'.setIfInBounds 0 x);have o3:=n_ (Obj.mapSeq fun M'=>M'.setIfInBounds 0 x) o2 rfl;generalize UT.update TO (Obj.mapSeq fun M'=>M'.setIfInBounds 0 x)=hp3 at*;have e3:∀c o,c≠z->c≠TO->c≠i1->s.heap.get? c=some o->hp3.get? c=some o:=fun c o n n' n2 q=>(u3.2 c n').trans (e2 c o n n2 q);show wpAny _ _ (forIn [(Value.ref i2,1)] _ _) _ _ _;rw[M_];refine a_ ?_;show wpAny _ _ (Sem.onRaise _ _>>=_) _ _ _;refine a_ (wpAny_onRaise ?_);show wpAny _ _ (Builtin.SmallTypes.nextOf (.ref i2)>>=_) _ _ _;refine a_ (OZ (h2.at fun o q=>e3 _ o D.i2z D.TOi2.symm D.i12.symm q) (q2.at fun o q=>e3 _ o D.l2z D.l2TO D.l2i1 q) hy fun hp4 it4 u4=>c_ ?_);dsimp only at u4;have o4:=(u4.2 TO D.TOi2).trans o3;show wpAny _ _ (seqItems? (.ref TO)>>=_) _ _ _;refine a_ (A_ o4 rfl ?_);show wpAny _ _ (updateSeq TO _>>=_) _ _ _;refine a_ (wpAny_updateSeq o4 rfl ?_ N0 (by show 2<=sizeLine+1;decide));refine a_ (wpAny_letGo (c_ ?_));have u5:=m_ hp4 TO (Obj.mapSeq fun M'=>M'.setIfInBounds 1 y);have o5:=n_ (Obj.mapSeq fun M'=>M'.setIfInBounds 1 y) o4 rfl;generalize hp4.update TO (Obj.mapSeq fun M'=>M'.setIfInBounds 1 y)=hp5 at*;have e5:∀c o,c≠z->c≠TO->c≠i1->c≠i2->s.heap.get? c=some o->hp5.get? c=some o:=fun c o n n' n2 n3 q=>(u5.2 c n').trans ((u4.2 c n3).trans (e3 c o n n' n2 q));show wpAny _ _ (forIn [] _ _) _ _ _;rw[List.forIn_nil];refine c_ ?_;show wpAny _ _ (seqItems? (.ref TO)>>=_) _ _ _;refine a_ (A_ o5 rfl ?_);show wpAny _ _ (newTuple [x,y]>>=_) _ _ _;refine a_ (wpAny_newTuple ?_ N0);have sz:hp5.objs.size=s.heap.objs.size:=by rw[u5.1,u4.1,u3.1,u2.1,u1.1]
 have z5:hp5.get? z=some {cls:=.type "zip",data:=.fields #[.ellipsis,.bool false,.bool false,.ref TI,.ref TO]}:=(u5.2 z D.TOz.symm).trans ((u4.2 z D.i2z.symm).trans ((u3.2 z D.TOz.symm).trans ((u2.2 z D.i1z.symm).trans z1)));have z6:=Jz {cls:=Value.type "tuple",data:=Data.seq [x,y].toArray} z5;have p6:=JG hp5 (o:={cls:=Value.type "tuple",data:=Data.seq [x,y].toArray}) rfl;have k6:∀c o,hp5.get? c=some o->(hp5.push {cls:=Value.type "tuple",data:=Data.seq [x,y].toArray}).get? c=some o:=fun c o q=>Jz _ q;have s6:(hp5.push {cls:=Value.type "tuple",data:=Data.seq [x,y].toArray}).objs.size=hp5.objs.size+1:=Kl ..;generalize hp5.push {cls:=Value.type "tuple",data:=Data.seq [x,y].toArray}=Wu at*;have zs:z≠hp5.objs.size:=JO (JD z5);have t5:hp5.get? TO=some {cls:=.type "tuple",data:=.seq #[x,y]}:=o5;show wpAny _ _ (Builtin.SmallTypes.ownedTupleHandOut (.ref z) (.ref hp5.objs.size)>>=_) _ _ _;refine a_ ?_;show wpAny _ _ (setField (.ref z) 0 (rawInt hp5.objs.size)>>=_) _ _ _;refine a_ (y_ z6 rfl (by simp) ?_);have u7:=m_ Wu z (Obj.mapFields fun M'=>M'.setIfInBounds 0 (rawInt hp5.objs.size));have z7:=n_ (Obj.mapFields fun M'=>M'.setIfInBounds 0 (rawInt hp5.objs.size)) z6 rfl;generalize Wu.update z (Obj.mapFields fun M'=>M'.setIfInBounds 0 (rawInt hp5.objs.size))=hp7 at*;refine y_ z7 rfl (by simp[Obj.mapFields]) ?_;have u8:=m_ hp7 z (Obj.mapFields fun M'=>M'.setIfInBounds 1 (.bool false));have z8:=n_ (Obj.mapFields fun M'=>M'.setIfInBounds 1 (.bool false)) z7 rfl;generalize hp7.update z (Obj.mapFields fun M'=>M'.setIfInBounds 1 (.bool false))=hp8 at*;have k8:∀c o,c≠z->hp5.get? c=some o->hp8.get? c=some o:=fun c o n q=>(u8.2 c n).trans ((u7.2 c n).trans (k6 c o q));refine c_ ⟨_,rfl,?_⟩;show Q (.ref hp5.objs.size) _;rw[sz]at p6 z8 zs s6⊢;refine hQ hp8 z8 (k8 _ _ D.TOz t5) ?_ ?_ ((u8.2 _ zs.symm).trans ((u7.2 _ zs.symm).trans p6)) (by rw[u8.1,u7.1,s6]) fun c o n1 n2 n3 n4 q=>k8 c o n1 (e5 c o n1 n2 n3 n4 q)
 ·refine it2.at fun o q=>k8 _ o D.i1z ?_;exact(u5.2 _ D.TOi1.symm).trans ((u4.2 _ D.i12).trans ((u3.2 _ D.TOi1.symm).trans q))
 ·refine it4.at fun o q=>k8 _ o D.i2z ?_;exact(u5.2 _ D.TOi2.symm).trans q
def QB(hh:A.handled=none)(D:ZipApart z TI TO i1 i2 l1 l2)(hz:IsZip s.heap z TI TO .none)(Vs:IsPair s.heap TI (.ref i1) (.ref i2))(VM:IsPair s.heap TO a b)
  (h1:N5 b1 s.heap i1 l1 k1) (h2:N5 b2 s.heap i2 l2 k2) (q1:N8 b1 s.heap l1 xs) (q2:N8 b2 s.heap l2 ys) (hx:xs[k1]?=none)
  (hE:∀h' e,(∀c o,c≠z->c≠TO->c≠i1->c≠i2->s.heap.get? c=some o->h'.get? c=some o)->(∃o,h'.get? e=some o/\o.cls=.type "StopIteration")->E (.ref e) {s with heap:=h'}) :
  wpAny (model prog w) A (Builtin.«zip.__next__» ⟨[.ref z],[]⟩) Q E s:=by
 show wpAny _ _ (field (.ref z) 2>>=_) _ _ s;refine a_ (r_ hz rfl (x:=.bool false) rfl ?_);show wpAny _ _ (field (.ref z) 3>>=_) _ _ s;refine a_ (r_ hz rfl (x:=.ref TI) rfl ?_);refine a_ (A_ Vs rfl ?_);show wpAny _ _ (Builtin.SmallTypes.ownedTupleIsFree (.ref z)>>=_) _ _ s;refine a_ ?_;unfold Builtin.SmallTypes.ownedTupleIsFree;refine a_ (r_ hz rfl (x:=.none) rfl (c_ ?_));show wpAny _ _ (rule "zip.__next__.owned-tuple-again" >>= _) _ _ s;refine a_ (R1 (a_ (r_ hz rfl (x:=.ref TO) rfl ?_)));show wpAny _ _ (setField (.ref z) 0 .ellipsis>>=_) _ _ s;refine a_ (y_ hz rfl (by simp) ?_);have u1:=m_ s.heap z (Obj.mapFields fun M'=>M'.setIfInBounds 0 Value.ellipsis);have z1:=n_ (Obj.mapFields fun M'=>M'.setIfInBounds 0 Value.ellipsis) hz rfl;generalize s.heap.update z (Obj.mapFields fun M'=>M'.setIfInBounds 0 Value.ellipsis)=Vn at*;show wpAny _ _ (forIn [(Value.ref i1,0),(Value.ref i2,1)] _ _>>=_) _ _ _;refine a_ ?_;rw[M_];refine a_ ?_;show wpAny _ _ (Sem.onRaise _ _>>=_) _ _ _;refine a_ (wpAny_onRaise ?_);show wpAny _ _ (Builtin.SmallTypes.nextOf (.ref i1)>>=_) _ _ _;have e1:∀c o,c≠z->s.heap.get? c=some o->Vn.get? c=some o:=fun c o n q=>(u1.2 c n).trans q;refine a_ (Qj hh (h1.at fun o q=>e1 _ o D.i1z q) (q1.at fun o q=>e1 _ o D.l1z q) hx fun UT e u2 ex=>?_);dsimp only at u2;obtain⟨ox,hox,cx⟩:=ex;have z2:=u2 _ _ D.i1z.symm z1;refine y_ z2 rfl (by simp[Obj.mapFields]) ?_;have u3:=m_ UT z (Obj.mapFields fun M'=>M'.setIfInBounds 0 .none);have ez:e≠z:=by
  rintro rfl;rw[hox]at z2;cases z2;have cx':Value.type "zip"=Value.type "StopIteration":=cx;injection cx' with q;exact absurd q zd
 generalize UT.update z (Obj.mapFields fun M'=>M'.setIfInBounds 0 .none)=hp3 at*;exact hE hp3 e (fun c o n1 n2 n3 n4 q=>(u3.2 c n1).trans (u2 c o n3 (e1 c o n1 q))) ⟨ox,(u3.2 e ez).trans hox,cx⟩
end
end
open Sem (wp)
open PySem.Spec PyProof.Rows
def Q6(b:Bool)(l:Ux):Obj:={cls:=.type (if b then "tuple_iterator" else "list_iterator"),data:=.fields #[.ref l,.int 0 0]}
def zB(h:Heap)(b1 b2:Bool)(l1 l2:Ux):Heap:=((((h.push (Q6 b1 l1)).push (Q6 b2 l2)).push {cls:=.type "tuple",data:=.seq #[.ref h.objs.size,.ref (h.objs.size+1)]}).push {cls:=.type "tuple",data:=.seq #[.none,.none]}).push
 {cls:=.type "zip",data:=.fields #[.none,.bool false,.bool false,.ref (h.objs.size+2),.ref (h.objs.size+3)]}
def Qd{prog:Uz}{w:UA}{A:UB}{E:Uw->Uy->Prop}{s:Uy}{b:Bool}{l:Ux}{Lf:Array Uw}{Q:Uw->Uy->Prop}(h:N8 b s.heap l Lf)(hQ:Q (.ref s.heap.objs.size) {s with heap:=s.heap.push (Q6 b l)}):wpAny (model prog w) A (pyIter (.ref l)) Q E s:=by
 cases b with
 |true=>exact J_ h hQ
 |false=>exact R4 h hQ
def QI(b1 b2:Bool)(l1 l2:Ux)(xs ys:Array Uw):Meets (Builtin.«zip.__new__» ⟨[.type "zip",.ref l1,.ref l2],[]⟩) (fun _ R s=>
  N8 b1 s.heap l1 xs/\N8 b2 s.heap l2 ys/\R (.ok (.ret (.ref (s.heap.objs.size+4)))) {s with heap:=zB s.heap b1 b2 l1 l2}):=
 .of_wp fun prog w A R s W5=>by
  rcases s with⟨hp,gs,dr,tk,ZO⟩;obtain⟨q1,q2,Wk⟩:=W5;have under:=sub_zip;have i1:=fun{A:UB}{E Q}=>@Qd prog w A E ⟨hp,gs,dr,tk,ZO⟩ b1 l1 xs Q q1;have i2:=fun{A:UB}{E Q}=>@Qd prog w A E ⟨hp.push (Q6 b1 l1),gs,dr,tk,ZO⟩ b2 l2 ys Q (q2.at fun o q=>Jz _ q)
  wp_walk using i1,i2
  refine⟨_,rfl,?_⟩;have sz:∀(h:Heap)o,(h.push o).objs.size=h.objs.size+1:=fun _ _=>Kl ..;simp only[zB]at Wk;simp only[sz];exact Wk
variable{xs ys:Array Uw}{l1 l2:Ux}{b1 b2:Bool}{s:Uy}
def Q9{prog:Uz}{w:UA}{A:UB}{E:Uw->Uy->Prop}{Q:Uw->Uy->Prop}(q1:N8 b1 s.heap l1 xs)(q2:N8 b2 s.heap l2 ys)
  (h:∀h',IsZip h' (s.heap.objs.size+4) (s.heap.objs.size+2) (s.heap.objs.size+3) .none->IsPair h' (s.heap.objs.size+2) (.ref s.heap.objs.size) (.ref (s.heap.objs.size+1))->IsPair h' (s.heap.objs.size+3) .none .none->N5 b1 h' s.heap.objs.size l1 0->N5 b2 h' (s.heap.objs.size+1) l2 0->
   (∀c o,s.heap.get? c=some o->h'.get? c=some o)->Q (.ref (s.heap.objs.size+4)) {s with heap:=h'}):wpAny (model prog w) A (call (.type "zip") [.ref l1,.ref l2]) Q E s:=by
 have sz:∀(h:Heap)o,(h.push o).objs.size=h.objs.size+1:=fun _ _=>Kl ..;have g0:∀(h:Heap)(o:Obj)(n:Nat),h.objs.size=n->o.isFreed=false->(h.push o).get? n=some o:=fun h o n e f=>e▸JG h f;have a1:IsZip (zB s.heap b1 b2 l1 l2) (s.heap.objs.size+4) (s.heap.objs.size+2) (s.heap.objs.size+3) .none:=g0 _ _ _ (by simp only[sz]) rfl;have a2:IsPair (zB s.heap b1 b2 l1 l2) (s.heap.objs.size+2) (.ref s.heap.objs.size) (.ref (s.heap.objs.size+1)):=Jz _ (Jz _ (g0 _ _ _ (by simp only[sz]) rfl));have a3:IsPair (zB s.heap b1 b2 l1 l2) (s.heap.objs.size+3) .none .none:=Jz _ (g0 _ _ _ (by simp only[sz]) rfl);have f0:∀b l,(Q6 b l).isFreed=false:=fun _ _=>rfl;have a4:(zB s.heap b1 b2 l1 l2).get? s.heap.objs.size=some (Q6 b1 l1):=Jz _ (Jz _ (Jz _ (Jz _ (g0 _ _ _ rfl (f0 _ _)))));have a5:(zB s.heap b1 b2 l1 l2).get? (s.heap.objs.size+1)=some (Q6 b2 l2):=Jz _ (Jz _ (Jz _ (g0 _ _ _ (by simp only[sz]) (f0 _ _))));have a6:∀c o,s.heap.get? c=some o->(zB s.heap b1 b2 l1 l2).get? c=some o:=fun c o q=>Jz _ (Jz _ (Jz _ (Jz _ (Jz _ q))));have ib:∀(b:Bool)(h:Heap)(a l:Ux),h.get? a=some (Q6 b l)->N5 b h a l 0:=fun b h a l q=>by
  cases b with
  |true=>exact⟨_,q,rfl,rfl⟩
  |false=>exact⟨_,q,rfl,rfl⟩
 refine callType_new F.called_zip zd (F.typeCall_zip_2 _ _) (F.newCall_zip_2 _ _) (fun x=>F.args_object_init_3 x _ _) F.entry_zip_new (QI b1 b2 l1 l2 xs ys) ⟨q1,q2,?_⟩;exact⟨⟨_,a1,rfl⟩,h _ a1 a2 a3 (ib _ _ _ _ a4) (ib _ _ _ _ a5) a6⟩
def OF{prog:Uz}{w:UA}{A:UB}{E:Uw->Uy->Prop}{b1 b2:Bool}{z TI TO i1 i2 l1 l2:Ux}{k1 k2:Nat}{xs ys:Array Uw}{x y a b:Uw}{Q:Option Uw->Uy->Prop}(D:ZipApart z TI TO i1 i2 l1 l2)(hz:IsZip s.heap z TI TO .none)(Vs:IsPair s.heap TI (.ref i1) (.ref i2))(VM:IsPair s.heap TO a b)
  (h1:N5 b1 s.heap i1 l1 k1) (h2:N5 b2 s.heap i2 l2 k2) (q1:N8 b1 s.heap l1 xs) (q2:N8 b2 s.heap l2 ys) (hx:xs[k1]?=some x) (hy:ys[k2]?=some y)
  (hQ:∀h',IsZip h' z TI TO (rawInt s.heap.objs.size)->IsPair h' TO x y->N5 b1 h' i1 l1 (k1+1)->N5 b2 h' i2 l2 (k2+1)->IsPair h' s.heap.objs.size x y->h'.objs.size=s.heap.objs.size+1->
   (∀c o,c≠z->c≠TO->c≠i1->c≠i2->s.heap.get? c=some o->h'.get? c=some o)->Q (some (.ref s.heap.objs.size)) {s with heap:=h'}):wpAny (model prog w) A (pyNext (.ref z)) Q E s:=by
 have hT:s.TypeIs (.ref z) "zip":=⟨_,hz,rfl⟩;unfold pyNext;refine a_ (R_ (q_ (name:=Str.ofString "__next__") hT K_ (t_ K_ hT PySem.F.entry_zip_next ?_ (PySem.F.args_zip_next_1 _))));refine Ql (A:=A.in1) D hz Vs VM h1 h2 q1 q2 hx hy fun h' c1 c2 c3 c4 c5 c6 c7=>?_;exact c_ (hQ h' c1 c2 c3 c4 c5 c6 c7)
def OM{prog:Uz}{w:UA}{A:UB}{E:Uw->Uy->Prop}{b1 b2:Bool}{z TI TO i1 i2 l1 l2:Ux}{k1 k2:Nat}{xs ys:Array Uw}{a b:Uw}{Q:Option Uw->Uy->Prop}(hh:A.handled=none)(D:ZipApart z TI TO i1 i2 l1 l2)(hz:IsZip s.heap z TI TO .none)(Vs:IsPair s.heap TI (.ref i1) (.ref i2))(VM:IsPair s.heap TO a b)
  (h1:N5 b1 s.heap i1 l1 k1) (h2:N5 b2 s.heap i2 l2 k2) (q1:N8 b1 s.heap l1 xs) (q2:N8 b2 s.heap l2 ys) (hx:xs[k1]?=none)
  (hQ:∀h',(∀c o,c≠z->c≠TO->c≠i1->c≠i2->s.heap.get? c=some o->h'.get? c=some o)->Q none {s with heap:=h'}):wpAny (model prog w) A (pyNext (.ref z)) Q E s:=by
 have hT:s.TypeIs (.ref z) "zip":=⟨_,hz,rfl⟩;unfold pyNext;refine a_ (R_ (q_ (name:=Str.ofString "__next__") hT K_ (t_ K_ hT PySem.F.entry_zip_next ?_ (PySem.F.args_zip_next_1 _))));refine QB (A:=A.in1) (show A.in1.handled=none from hh) D hz Vs VM h1 h2 q1 q2 hx fun h' e k ex=>?_;obtain⟨o,ho,hc⟩:=ex;refine a_ (wpAny_isInstance (T:="StopIteration") (b:=true) ⟨o,ho,hc⟩ isSubtype_stop ?_);exact c_ (hQ _ k)
end PySem
namespace L2
open PySem PySem.Spec PyProof.Rows
def uU(K:ZF):Bool->Hp->Ux->UG->Prop
 |true=>NL K
 |false=>NQ K
def NO.seqB(I:NO X K3 σ H s)(h:uU X.K b H l xs):∃f',NV xs f'/\N8 b s.heap l f'.toArray:=by
 cases b with
 |true=>exact(let⟨f',r,p,_⟩:=I.tuple h;let⟨o,a,b,n,c⟩:=p;⟨f',r,o,a,b,n,c⟩)
 |false=>exact(let⟨f',r,p,_⟩:=I.list h;⟨f',r,p.isList⟩)
def NO.seqB_inj(I:NO X K3 σ H s)(h:uU X.K b H l xs)(h':uU X.K b H l ys):xs=ys:=by
 cases b with
 |true=>exact I.tuple_inj h h'
 |false=>exact I.list_inj h h'
def pC(a:N8 b h l xs):l<h.objs.size:=by
 cases b with
 |true=>exact(let⟨_,e,_⟩:=a;JD e)
 |false=>exact(let⟨_,e,_⟩:=a;JD e)
def Dq(K:ZF)(b1 b2:Bool)(l1 l2:Ux):It:=
 ⟨fun i H=>∃xs ys x y,uU K b1 H l1 xs/\uU K b2 H l2 ys/\xs[i]?=some x/\ys[i]?=some y,
  fun i H v H'=>∃T x y,v=.ref T/\H T=none/\H'=az H T (.tup [x,y])/\(∀xs,uU K b1 H l1 xs->xs[i]?=some x)/\∀ys,uU K b2 H l2 ys->ys[i]?=some y,
  fun i H=>∃xs ys,uU K b1 H l1 xs/\uU K b2 H l2 ys/\xs.length<=i⟩
def uV{b1 b2:Bool}{P:Uz}{w:UA}{K:ZF}{U':List Expr}{kt:Nat}{tp:Pos}{z TI TO i1 i2 l1 l2:Ux}(D:ZipApart z TI TO i1 i2 l1 l2):
  kX P w K (.Tuple U' kt tp) (Dq K b1 b2 l1 l2) [z,TI,TO,i1,i2] z (fun i h=>IsZip h z TI TO .none/\IsPair h TI (.ref i1) (.ref i2)/\(∃a b,IsPair h TO a b)/\N5 b1 h i1 l1 i/\N5 b2 h i2 l2 i) where
 mem:=by simp
 obj:=fun i h st b hb=>by
  obtain⟨hz,Vs,⟨a,c,VM⟩,i1',i2'⟩:=st;obtain⟨o1,h1,d1⟩:=i1'.some;obtain⟨o2,h2,d2⟩:=i2'.some;simp at hb;rcases hb with rfl|rfl|rfl|rfl|rfl
  ·exact⟨_,hz,fun v q=>by cases q⟩
  ·exact⟨_,Vs,fun v q=>by cases q⟩
  ·exact⟨_,VM,fun v q=>by cases q⟩
  ·exact⟨_,h1,fun v q=>d1 v q⟩
  ·exact⟨_,h2,fun v q=>d2 v q⟩
 keep:=fun i h h' st k=>by
  obtain⟨hz,Vs,⟨a,c,VM⟩,h1,h2⟩:=st;exact⟨k z (by simp) _ hz,k TI (by simp) _ Vs,⟨a,c,k TO (by simp) _ VM⟩,h1.at fun o e=>k i1 (by simp) o e,h2.at fun o e=>k i2 (by simp) o e⟩
 item:=by
  intro X hP hw hK hc i K3 s σ H E I hf st hg;subst hP hw hK;obtain⟨xs,ys,x,y,hx,hy,ex,ey⟩:=hg;obtain⟨hz,Vs,⟨a,c,VM⟩,h1,h2⟩:=st;obtain⟨UP,VA,p1⟩:=I.seqB hx;obtain⟨U2,Y9,p2⟩:=I.seqB hy;obtain⟨u1,XZ,X'⟩:=VA.get ex;obtain⟨u2,eu2,ru2⟩:=Y9.get ey;refine OF D hz Vs VM h1 h2 p1 p2 (x:=u1) (y:=u2) (by simpa using XZ) (by simpa using eu2) fun h' a1 a2 a3 a4 a5 a6 a7=>⟨_,rfl,?_⟩;refine wpAny_letOwnedTupleGo_zip a1 fun Wf b1 b2=>?_;have hT:H s.heap.objs.size=none:=I.hok.fresh (JB _);have VV:∀b o,s.heap.get? b=some o->b≠s.heap.objs.size:=fun b o e=>JO (JD e);refine⟨.ref s.heap.objs.size,az H s.heap.objs.size (.tup [x,y]),?_,rfl,⟨s.heap.objs.size,x,y,rfl,hT,rfl,fun xs' h=>by rw[I.seqB_inj h hx];exact ex,fun F' h=>by rw[I.seqB_inj h hy];exact ey⟩,?_,fun b hb=>?_⟩
  ·show NO X K3 σ (az H s.heap.objs.size (.tup [x,y])) {s with heap:=Wf,toks:=s.toks};refine NO.turnedS (s:=s) (h':=Wf) (t':=s.toks) (ch:=[z,TO,i1,i2]) I (fun b hb=>hf b ?_) (fun b o hc e=>?_) (fun b o e=>by rw[ao (aI e hT)];exact e) (fun b hb n=>by rw[ao (JO hb)];exact n) fun b o n e=>?_
   ·simp at hb⊢;rcases hb with rfl|rfl|rfl|rfl<;>simp
   ·simp at hc;exact b2.extBut b o hc.1 (a7 b o hc.1 hc.2.1 hc.2.2.1 hc.2.2.2 e)
   ·by_cases eb:b=s.heap.objs.size
    ·subst eb;rw[ac]at e;cases e;refine⟨N0,[u1,u2],.cons X' (.cons ru2 .nil),_,b2.extBut _ _ ?_ a5,rfl,_,rfl⟩;exact fun q=>VV z _ hz q.symm
    ·rw[ao eb,n]at e;cases e
  ·refine⟨b1,b2.extBut _ _ D.TIz (a7 _ _ D.TIz D.TITO D.TIi1 D.TIi2 Vs),⟨_,_,b2.extBut _ _ D.TOz a2⟩,a3.at fun o e=>b2.extBut _ o D.i1z e,a4.at fun o e=>b2.extBut _ o D.i2z e⟩
  ·have n:=(hf b hb).1;have:b≠s.heap.objs.size:=by
    simp at hb;obtain⟨_,q1,_⟩:=h1.some;obtain⟨_,q2,_⟩:=h2.some;rcases hb with rfl|rfl|rfl|rfl|rfl
    ·exact VV _ _ hz
    ·exact VV _ _ Vs
    ·exact VV _ _ VM
    ·exact VV _ _ q1
    ·exact VV _ _ q2
   rw[ao this];exact n
 done:=by
  intro X hP hw hK hc i K3 s σ H E I hf st hg;subst hP hw hK;obtain⟨xs,ys,hx,hy,hl⟩:=hg;obtain⟨hz,Vs,⟨a,c,VM⟩,h1,h2⟩:=st;obtain⟨UP,VA,p1⟩:=I.seqB hx;obtain⟨U2,Y9,p2⟩:=I.seqB hy;have e1:=VA.length;have e2:=Y9.length;have VQ:UP.toArray[i]?=none:=by simp;lia
  refine OM (I.ok.hd hc) D hz Vs VM h1 h2 p1 p2 VQ fun h' k=>⟨rfl,?_⟩;refine I.turnedS (t':=s.toks) (ch:=[z,TO,i1,i2]) (fun b hb=>hf b ?_) (fun b o hc e=>?_) (fun b o e=>e) (fun b hb n=>n) fun b o n e=>?_
  ·simp at hb⊢;rcases hb with rfl|rfl|rfl|rfl<;>simp
  ·simp at hc;exact k b o hc.1 hc.2.1 hc.2.2.1 hc.2.2.2 e
  ·rw[n]at e;cases e
 self:=fun _ _ _ _ _ st h=>wpAny_pyIter_zip st.1 h
section
inductive xM(b1:Bool)(b2:Bool)(K:ZF)(R:It->Hp->Prop)(vs:UG)(H1:Hp):Prop
 |mk(l1 l2:_):vs=[.ref l1,.ref l2]->(∃xs,uU K b1 H1 l1 xs)->(∃ys,uU K b2 H1 l2 ys)->R (Dq K b1 b2 l1 l2) H1->xM b1 b2 K R vs H1
def FU(b1 b2:Bool)(K:ZF)(ta:TA):TI:=fun σ H R=>ta σ H fun vs H1=>xM b1 b2 K R vs H1
def mY(b1 b2:Bool){U':List Expr}{kt:Nat}{tp:Pos}{a b:Expr}{ta:TA}{p pos:Pos}(hg:Gl X "zip")(hm:X.mg "zip"=none)(ha:PA X [a,b] ta)(hs:starEach [a,b] X.env=[(false,eval a X.env),(false,eval b X.env)]:=by rfl)(Vq:starEach [b] X.env=[(false,eval b X.env)]:=by rfl):
  PI X (.Tuple U' kt tp) (.Call (.Name "zip" p) [a,b] [] pos) (FU b1 b2 X.K ta):=by
 refine⟨?_⟩;intro K3 s σ H R I h;refine Call_ (fj I hg hm wz (Ke (bN (ha pos K3 s σ H _ I h) fun us s1 hZZ=>?_) (by rw[hs,Vq]) (by rw[Vq];rfl)));obtain⟨vs,H1,I1,r1,q1⟩:=hZZ;obtain⟨l1,l2,e,⟨xs,hx⟩,⟨ys,hy⟩,q⟩:=q1;subst e;cases r1 with
 |cons r rr=>
  cases rr with
  |cons r' rr=>
   cases rr;cases r;cases r';obtain⟨UP,VA,p1⟩:=I1.seqB hx;obtain⟨U2,Y9,p2⟩:=I1.seqB hy;refine Q9 p1 p2 fun h' a1 a2 a3 a4 a5 a7=>?_;refine wpAny_pyIter_zip a1 ?_;have lt1:=pC p1;have lt2:=pC p2;refine⟨_,[s1.heap.objs.size+4,s1.heap.objs.size+2,s1.heap.objs.size+3,s1.heap.objs.size,s1.heap.objs.size+1],_,_,H1,rfl,I1.kept (t':=s1.toks) a7,uV (PyProof.Rows.zipApart_new lt1 lt2),⟨a1,a2,⟨_,_,a3⟩,a4,a5⟩,fun b hb=>?_,q⟩;have Vr:s1.heap.objs.size<=b:=by
    simp only[JT,Kj,O_]at hb;rcases hb with e|e|e|e|e<;>rw[e]
    ·exact E_ _ _
    ·exact E_ _ _
    ·exact E_ _ _
    ·exact JB _
    ·exact E_ _ _
   exact I1.fpOk Vr (I1.hok.fresh Vr)
end
def mZ{b1 b2:Bool}{K:ZF}{l1 l2:Ux}{xs ys:UG}{g:TG}{tf:TT}{te:TE}{ix:List (Option Nat)}{σ:St}{H:Hp}{Q:VK}(hxy:xs.length=ys.length)(Pv:Nat->UG->Hp->Prop)(h0:Pv 0 [] H)
  (hl:∀i F' H,i<=xs.length->Pv i F' H->uU K b1 H l1 xs/\uU K b2 H l2 ys/\F'.length<=sizeLine)
  (hs:∀i x y F' H T,xs[i]?=some x->ys[i]?=some y->H T=none->Pv i F' H->g (.ref T) (eG ix σ) (az H T (.tup [x,y])) fun σ2 H2=>Ob (eG ix σ) σ2/\tf σ2 H2 fun b H3=>if b=true then te σ2 H3 fun y H4=>Nx Pv xs.length i (F'++[y]) H4 else Nx Pv xs.length i F' H3)
  (hd:∀F' H,Pv xs.length F' H->∀D,H D=none->Q (.ref D) (az H D (.lst F'))):uz (Dq K b1 b2 l1 l2) g tf te ix σ H Q:=by
 refine⟨fun i m F' H=>m=xs.length-i/\i<=xs.length/\Pv i F' H,⟨xs.length,by simp,JN _,h0⟩,?_⟩;rintro i m F' H ⟨rfl,hi,p⟩;obtain⟨q1,q2,hz⟩:=hl i F' H hi p;by_cases Ld:i<xs.length
 ·have hlt2:i<ys.length:=by lia
  refine .inr ⟨⟨xs,ys,xs[i],ys[i],q1,q2,by simp[Ld],by simp[hlt2]⟩,hz,fun x H' y=>?_⟩;obtain⟨T,x1,y1,rfl,hT,rfl,ex,ey⟩:=y;exact hs i x1 y1 F' H T (ex xs q1) (ey ys q2) hT p
 ·have e:i=xs.length:=by lia
  subst e;exact .inl ⟨⟨xs,ys,q1,q2,JB _⟩,hz,hd F' H p⟩
section
variable{X:Cx}
inductive BH(r:V->UG->Hp->VK->Prop)(t:TA)(σ:St)(Q:VK)(x:V)(H1:Hp):Prop
 |mk(p xs:_):x=.ref p->H1 p=some (.tup xs)->(t σ H1 fun xs H2=>r x xs H2 Q)->BH r t σ Q x H1
def HQ(r:V->UG->Hp->VK->Prop)(to:TE)(t:TA):TE:=fun σ H Q=>to σ H fun x H1=>BH r t σ Q x H1
variable{o e:Expr}{es:List Expr}{to:TE}{t:TA}{name:Str}{K' B':Pos}{id:String}{r:V->UG->Hp->VK->Prop}
def Dr(pa:PlainAttrs "tuple")(slot:Slot "tuple" name id)(Yj:typeOf (.builtin id)=pure (.type "method_descriptor"))(hm:GW X id r)(ho:PE X o to)(ha:PA X (e::es) t)
  (Wo:attributeBase o name X.env (eval o X.env)=eval o X.env:=by rfl)
  (XJ:((backTo B' (starEach (e::es) X.env)).all (fun x=>!x.1)&&(backToKw B' (keywordEach [] X.env)).all (fun x=>x.1.isSome)
   && decide ((e::es).length+([]:List Keyword).length+(if([]:List Keyword).isEmpty then 0 else 1)<30))=true:=by rfl)
  (Wm:(K'.endLine==B'.line)=true:=by rfl) (hs:starEach (e::es) X.env=(false,eval e X.env)::starEach es X.env:=by rfl) (VS:(backTo B' (starEach es X.env)).any (·.1)=false:=by rfl) :
  PE X (.Call (.Attribute o name K') (e::es) [] B') (HQ r to t):=by
 refine⟨?_⟩;intro K3 s σ H Q I h;refine wpAny_Call_method_late Wo XJ Wm rfl (bN (ho K3 s σ H _ I h) fun v s1 hZZ=>?_);obtain⟨x,H1,I1,r1,p,xs,ex,hp,q1⟩:=hZZ;subst ex;cases r1;obtain⟨_,f',rv,ob,g1,g2,n,g3⟩:=(show N2 X.prog X.w H1 s1.heap p (.tup xs)from I1.hok p _ hp);have gc:=(KF g2).1;have gd:=(KF g2).2;refine⟨"tuple",id,pa,slot,Yj,⟨ob,g1,gc⟩,fun a e=>?_,?_⟩
 ·cases e;exact⟨ob,g1,gd⟩
 have hA:=ha B' K3 s1 σ H1 _ I1 q1;rw[hs]at hA⊢;refine KJ (by show(false||(backTo B' (starEach es X.env)).any (·.1))=false;rw[VS]<;>rfl) (KQ ?_);exact bN hA fun us s2⟨vs,H2,I2,r2,q2⟩=>hm K3 s2 σ H2 (.ref p) vs _ us Q I2 rfl r2 q2
end
end L2
namespace L3
open PySem L2
inductive Du(C:Ux)(xs:UG)(H:Hp)(Q:VK)(Z3:XK):Prop
 |mk(l:UE)(D:Fm):xs=[.str (S l)]->l.length<=20000->(TK.toks l).length<=1500->qU ((TK.toks l).map S) D->rf D->(∀v H',NJ H H'->Op C H' v D->Q v H')->Du C xs H Q Z3
def Aq(ts:List (UE)):vs ts=aJ (ts.map S):=by
 unfold vs aJ;rw[KR];rfl
section
def HR:al [T6] [T6] (ah gK):=bH zk
def FV(F:N1 K "read_table" "read_table" gK f fd)(B:Bl mg)(hM:mg "MOST_SIGNS"=some (.int 20000 tM))(TO:Fn P w K mg base "tokens_of" 3 [T6] qN)(RF:Fn P w K mg base "read_form" n [Tx] qV)(TF:Fn P w K mg base "table_of_form" m ["form"] (Dp C))(hn:3<=n)(hm:m<=n):NN P w K mg base br (n+1) f fd [T6] (Du C):=by
 have ZZ:=HR
 walk_at "o"
 ·obtain⟨l,D,rfl,hl,ht,hF,hO,q⟩:=h;have VC:NZ 3 _:=hr.mono zo;have Xs:NZ m _:=hr.mono hm;have sz:(100000:Nat)<=sizeLine:=by decide
  refine⟨_,ae (aM (PW.pt (de (bP (bE (au (dn (T:="str")) (by rfl) B.isinstance ce (aa (pv 0) (aa (dU (by rfl) B.str fZ) ab))))) (cX (ak sC (au cc (by rfl) B.len JI (aa (pv 0) ab)) (be (v:=.int 20000) rfl hM ⟨_,rfl⟩))))) (ag aU) aw)
   (ag (am (ap TF Xs rfl (aa (ap RF hr rfl (aa (ap TO VC rfl (aa (pv 0) ab)) ab)) ab)))),?_⟩
  refine⟨_,rfl,_,_,_,rfl,.str _,rfl,_,rfl,bJ ?_⟩;refine⟨_,rfl,S l,rfl,(by rw[bG];lia),_,_,rfl,rfl,_,rfl,aN (d_ (by rw[bG];lia)) ?_⟩;refine⟨_,rfl,l,rfl,zo,fun p H1 np e1 s1=>?_⟩;rw[Aq]at e1;refine⟨p,_,D,rfl,e1,by rw[JC];exact ht,hF,fun u H2 s2 hu=>?_⟩;exact⟨u,D,rfl,hu,hO,fun v H3 s3 hv=>q v H3 (s1.trans (s2.trans s3)) hv⟩
end
abbrev m7:Stmt:=bO jy 1
abbrev iZ:Stmt:=bO jy 2
abbrev xN:Stmt:=bO jy 3
inductive fL(C:Ux)(vs:UG)(H:Hp)(Q:VK)(Z3:XK):Prop
 |mk(v D z:_)(j:Nat):vs=[v,.str z]->Op C H v D->(D.kinds.map Kn.name)[j]?=some z->(∀m,m<j->(D.kinds.map Kn.name)[m]?≠some z)->Q (.int j) H->fL C vs H Q Z3
inductive gk(C:Ux)(vs:UG)(H:Hp)(Q:VK)(Z3:XK):Prop
 |mk(v D:_)(x:Kn):vs=[v,.str x.name]->Op C H v D->rf D->x∈D.kinds->(∀b,QN H x.dd b->Q b H)->gk C vs H Q Z3
inductive pE(C:Ux)(vs:UG)(H:Hp)(Q:VK)(Z3:XK):Prop
 |mk(v D:_)(x:Kn):vs=[v,.str x.name]->Op C H v D->rf D->x∈D.kinds->(∀tf us,H tf=some (.tup us)->Paired (Ot H) us x.fs->Q (.ref tf) H)->pE C vs H Q Z3
def pF{l:UD}(nd:l.Nodup){j:Nat}{z:Str}(h:l[j]?=some z):∀m,m<j->l[m]?≠some z:=by
 intro m hm e;have h1:=(JA.mp h).1;have h2:=(JA.mp h).2;have h3:=(JA.mp e).1;have h4:=(JA.mp e).2;exact List.pairwise_iff_getElem.mp nd m j h3 h1 hm (by rw[h2,h4])
def xO:∀{xs:List α}{ys:List β},Paired R xs ys->∀{i:Nat}{y:β},ys[i]?=some y->∃x,xs[i]?=some x/\R x y
 |_,_,.cons h t,0,y,e=>by
  simp at e;exact⟨_,rfl,e▸h⟩
 |_,_,.cons h t,i+1,y,e=>by
  obtain⟨x,a,b⟩:=xO t (i:=i) (y:=y) (by simpa using e);exact⟨x,by simpa using a,b⟩
def xP:∀{l:List α},x∈l->∃j:Nat,l[j]?=some x:=fun h=>let⟨j,hj,e⟩:=Sf h;⟨j,by rw[Kd hj,e]⟩
def Op.same(h:Op C H v D)(s:NJ H H'):Op C H' v D:=
 let⟨a,dx,pp,pm,pn,pk,us,e,b,c,d,f,g,i⟩:=h
 ⟨a,dx,pp,pm,pn,pk,us,e,s _ _ b,s _ _ c,s _ _ d,s _ _ f,s _ _ g,bW (fun _ _ h=>PU.kt (ay s) h) i⟩
section
def xQ:al [SN,S0] [SN,S0] (ah m7):=bH zk
def uW(F:N1 K "kind_at" "Table.kind_at" m7 f fd)(T:Tc K C):NN P w K mg base br 1 f fd [SN,S0] (fL C):=by
 have ZZ:=xQ
 walk_at "o"
 ·obtain⟨v,D,z,j,rfl,⟨a,dx,pp,pm,pn,pk,us,rfl,ho,T',UK,U3,Wt,K9⟩,hj,hf,q⟩:=h;refine⟨_,ae (aM (ak du (pv 1) (aK (pv 0) rfl) rfl) (ag aU) aw)
   (ag (am (Dr PySem.F.plainAttrs_tuple PySem.F.slot_tuple_index PySem.F.type_tuple_index pB (aK (pv 0) rfl) (aa (pv 1) ab)))),?_⟩
  have hz:z∈D.kinds.map Kn.name:=JP hj;refine⟨_,rfl,_,rfl,a,C,dx,_,_,rfl,ho,T.cl,T.na TM zk,rfl,pn,_,rfl,.inr (NL.of U3),rfl,bu _,_,rfl,aN ?_ ?_⟩
  ·show(!kU (.str z) (aJ (D.kinds.map Kn.name)))=false;rw[cZ,J8.mpr hz];rfl
  ·exact⟨_,rfl,a,C,dx,_,_,rfl,ho,T.cl,T.na TM zk,rfl,pn,_,rfl,U3,_,rfl,pn,_,z,j,rfl,rfl,NL.of U3,hj,hf,q⟩
def HU:al [SN,S0] [SN,S0] (ah iZ):=bH zk
variable{fd:UC}{f:Ux}
def FW(F:N1 K "fields_of" "Table.fields_of" iZ f fd)(T:Tc K C)(KA:bB P w K mg base C "kind_at" 1 [SN,S0] (fL C)):NN P w K mg base br 2 f fd [SN,S0] (pE C):=by
 have ZZ:=HU
 walk_at "o"
 ·obtain⟨v,D,x,rfl,hT,hD,hx,q⟩:=h;obtain⟨a,dx,pp,pm,pn,pk,us,rfl,ho,T',UK,U3,Wt,K9⟩:=id hT;have K5:NZ 1 _:=hr;obtain⟨f1,K7,M1,F1,B1⟩:=KA;refine⟨_,ag (am (ax ar (ax ar (aK (pv 0) rfl) (aR (pv 0) (aa (pv 1) ab))) ai)),?_⟩;obtain⟨j,hj⟩:=xP hx;obtain⟨u,hu,p,tf,b,fu,rfl,hp,Vb,Vc,hb⟩:=xO K9 hj;have Yq:(D.kinds.map Kn.name)[j]?=some x.name:=by rw[J5,hj];rfl
  refine⟨_,rfl,a,C,dx,_,_,rfl,ho,T.cl,T.na Tf zk,rfl,_,rfl,a,dx,C,f1,_,K7,1,[SN,S0],_,rfl,ho,rfl,T.cl,M1,F1,K5,B1,_,rfl,_,D,x.name,j,rfl,hT,Yq,pF hD.kn Yq,?_⟩;exact⟨pk,us,_,_,rfl,rfl,NL.of Wt,bD hu,p,_,_,_,rfl,rfl,NL.of hp,rfl,q tf fu Vb Vc⟩
def Dv:al [SN,S0] [SN,S0] (ah xN):=bH zk
def xR(F:N1 K TL "Table.deed" xN f fd)(T:Tc K C)(KA:bB P w K mg base C "kind_at" 1 [SN,S0] (fL C)):NN P w K mg base br 2 f fd [SN,S0] (gk C):=by
 have ZZ:=Dv
 walk_at "o"
 ·obtain⟨v,D,x,rfl,hT,hD,hx,q⟩:=h;obtain⟨a,dx,pp,pm,pn,pk,us,rfl,ho,T',UK,U3,Wt,K9⟩:=id hT;have K5:NZ 1 _:=hr;obtain⟨f1,K7,M1,F1,B1⟩:=KA;refine⟨_,ag (am (ax ar (ax ar (aK (pv 0) rfl) (aR (pv 0) (aa (pv 1) ab))) ai)),?_⟩;obtain⟨j,hj⟩:=xP hx;obtain⟨u,hu,p,tf,b,fu,rfl,hp,Vb,Vc,hb⟩:=xO K9 hj;have Yq:(D.kinds.map Kn.name)[j]?=some x.name:=by rw[J5,hj];rfl
  refine⟨_,rfl,a,C,dx,_,_,rfl,ho,T.cl,T.na Tf zk,rfl,_,rfl,a,dx,C,f1,_,K7,1,[SN,S0],_,rfl,ho,rfl,T.cl,M1,F1,K5,B1,_,rfl,_,D,x.name,j,rfl,hT,Yq,pF hD.kn Yq,?_⟩;exact⟨pk,us,_,_,rfl,rfl,NL.of Wt,bD hu,p,_,_,_,rfl,rfl,NL.of hp,ic,q b hb⟩
end
end L3
namespace L2
open PySem PySem.Spec PyProof.Rows
structure O8(K:ZF)(x qual:Str)(st:Stmt)(ds:Array Uw)(f:Ux)(fd:UC):Prop where
 ex:∃(oc:Uw)(od:Option Ux)(kV doc pm:Uw)(an:Option Ux)(Lb ct:Uw)(U7:Array (Option Uw))(d:Ux)(o:Obj)(n:Nat),
  fd=PySem.W.fnOf x qual (cL st) (cz st) (ah st) (.ref d) kV doc pm an Lb ct/\K.lookup f=some ⟨oc,od,.func fd,U7⟩/\PySem.W.codeIn K Lb qual=true/\K.lookup d=some o/\o.data=.seq ds n
 kp:PySem.W.keepIn K (.ref f)=true
def O8.ok{P:Uz}{w:UA}{K:ZF}{mg:Str->Option Uw}{base:Heap}{x qual:Str}{st:Stmt}{ds:Array Uw}{f:Ux}{fd:UC}{N ps:UD}{k:Nat}{sp:Sp}(F:O8 K x qual st ds f fd)(S:al N ps (ah st))(len:∀vs H Q E,sp vs H Q E->vs.length=ps.length)
  (Vw:∀(Lb:Uw)(A:UB)(outer:List Env)(s:Uy)(H:Hp)(vs:UG)(Q:VK)(E:XK),NZ k (A.deeper (envOfC qual (ah st) s.heap.objs.size f Lb))->sp vs H Q E->
   ∃t,Pg (qk br P w K mg base N qual (ah st) f Lb A outer s H E).nox (cz st) t/\t {nx:=fun _ H'=>Q .non H',rt:=Q} (start N vs) H):NN P w K mg base br (k+1) f fd ps sp:=by
 obtain⟨oc,od,kV,doc,pm,an,Lb,ct,U7,d,o,n,rfl,lk,U8,_⟩:=F.ex;refine Bq lk U8 S len fun A outer s H vs Q E hr V_=>?_;obtain⟨t,h,q⟩:=Vw Lb A outer s H vs Q E hr V_;exact⟨t,h.nox,q⟩
end L2
namespace L3
open PySem L2
abbrev xS:Stmt:=top 17
def Ar(D:Fm)(n:Nat)(st:Str):Nat:=if st=SU then D.places.length else if st=S2 then D.marks.length else if st="number" then 2^D.width else n+1
inductive rg(vs:UG)(H:Hp)(Q:VK)(Z3:XK):Prop
 |mk(i w:Nat):vs=[.int i,.int w]->w<=24->i<2^w->Q (.bl true) H->rg vs H Q Z3
inductive i3(C:Ux)(vs:UG)(H:Hp)(Q:VK)(Z3:XK):Prop
 |mk(v D st:_)(i n:Nat):vs=[v,.str st,.int i,.int n]->Op C H v D->D.width<=24->i<Ar D n st->Q (.bl true) H->i3 C vs H Q Z3
section
variable{P:Uz}{w:UA}{K:ZF}{mg:Str->Option Uw}{base:Heap}{C fi aS aE aF aO:Ux}{t1 t2 t3 t4 t5 tM:Tok}
def Dw:al [S6,SV] [S6,SV] (ah xS):=bH zk
variable{fd:UC}{f:Ux}
def As(F:N1 K "is_word" "is_word" xS f fd)(WI:Fn P w K mg base "is_within" 2 [S6,Uf,Tr] dH):NN P w K mg base br 3 f fd [S6,SV] rg:=by
 have ZZ:=Dw
 walk_at "o"
 ·obtain⟨i,w,rfl,hw,hi,q⟩:=h;refine⟨_,ag (am (ap WI hr rfl (aa (pv 0) (aa ai (aa (aX iB (aX lX ai (pv 1)) ai) ab))))),?_⟩;refine⟨_,rfl,_,rfl,_,_,rfl,rfl,?_,_,_,rfl,rfl,_,_,_,rfl,by lia,?_,q⟩
  ·unfold Cg;refine⟨by lia,by lia,zd⟩
  ·have e:((w:Int)).toNat=w:=by lia
   show(i:Int)<=1*2^((w:Int)).toNat-1;rw[e];have:((2^w:Nat):Int)=(2:Int)^w:=by norm_cast
   lia
def uX:al [SQ,Tg,S6,Ul] [SQ,Tg,S6,Ul] (ah gL):=bH zk
def rh(F:N1 K "is_operand" "is_operand" gL f fd)(T:Tc K C)(B:Bl mg)(WI:Fn P w K mg base "is_within" 2 [S6,Uf,Tr] dH)(WO:Fn P w K mg base "is_word" 3 [S6,SV] rg):NN P w K mg base br 4 f fd [SQ,Tg,S6,Ul] (i3 C):=by
 have ZZ:=uX
 walk_at "o"
 ·obtain⟨v,D,st,i,n,rfl,⟨a,dx,pp,pm,pn,pk,us,rfl,ho,T',UK,U3,Wt,K9⟩,hw,hb,q⟩:=h;refine⟨_,ae (aM (ak aY (pv 1) aj) (ag (am (ap WI hr.m rfl (aa (pv 2) (aa ai (aa (aX iB (au aH (by rfl) B.len JI (aa (aK (pv 0) rfl) ab)) ai) ab)))))) aw)
   (ae (aM (ak aY (pv 1) aj) (ag (am (ap WI hr.m rfl (aa (pv 2) (aa ai (aa (aX iB (au aH (by rfl) B.len JI (aa (aK (pv 0) rfl) ab)) ai) ab)))))) aw)
   (ae (aM (ak aY (pv 1) aj) (ag (am (ap WO hr rfl (aa (pv 2) (aa (aK (pv 0) rfl) ab))))) aw)
   (ag (am (ap WI hr.m rfl (aa (pv 2) (aa ai (aa (pv 3) ab)))))))),?_⟩
  refine⟨_,rfl,rfl,_,rfl,eD (fun h=>?_) (fun h=>?_)⟩
  ·have h':st=SU:=V.str.inj (j_ h);subst h';unfold Ar at hb;rw[g_ rfl]at hb;refine⟨_,rfl,_,rfl,a,C,dx,_,_,rfl,ho,T.cl,T.na SZ zk,rfl,pp,_,rfl,.inr (NL.of T'),_,_,rfl,rfl,_,_,_,rfl,by lia,?_,q⟩;unfold aJ;rw[JC];lia
  have n1:st≠SU:=fun e=>h (b_ (i_ V.str e));refine⟨_,rfl,rfl,_,rfl,eD (fun h=>?_) (fun h=>?_)⟩
  ·have h':st=S2:=V.str.inj (j_ h);subst h';unfold Ar at hb;rw[e_ n1,g_ rfl]at hb;refine⟨_,rfl,_,rfl,a,C,dx,_,_,rfl,ho,T.cl,T.na S5 zk,rfl,pm,_,rfl,.inr (NL.of UK),_,_,rfl,rfl,_,_,_,rfl,by lia,?_,q⟩;unfold aJ;rw[JC];lia
  have n2:st≠S2:=fun e=>h (b_ (i_ V.str e));refine⟨_,rfl,rfl,_,rfl,eD (fun h=>?_) (fun h=>?_)⟩
  ·have h':st="number":=V.str.inj (j_ h);subst h';unfold Ar at hb;rw[e_ n1,e_ n2,g_ rfl]at hb;exact⟨_,rfl,_,rfl,a,C,dx,_,_,rfl,ho,T.cl,T.na SV zk,rfl,_,_,rfl,hw,hb,q⟩
  have n3:st≠"number":=fun e=>h (b_ (i_ V.str e));unfold Ar at hb;rw[e_ n1,e_ n2,e_ n3]at hb;exact⟨_,rfl,_,rfl,_,_,_,rfl,by lia,by lia,q⟩
structure Rw where
 k:Kn
 ops:UE
def fM(l:UE):UG:=l.map fun(n:Nat)=>V.int (n:Int)
def FX(D:Fm)(n:Nat)(r:Rw):Prop:=r.k∈D.kinds/\Paired (fun o(f:Str×Str)=>o<Ar D n f.2) r.ops r.k.fs
inductive FY(H:Hp)(u:V)(r:Rw):Prop
 |mk(p t:_):u=.ref p->H p=some (.tup [.str r.k.name,.ref t])->H t=some (.tup (fM r.ops))->FY H u r
def FZ{l:UE}{i:Nat}{x:V}(h:(fM l)[i]?=some x):∃o,l[i]?=some o/\x=.int (o:Int):=by
 unfold fM at h;rw[J5]at h;cases e:l[i]? with
 |none=>rw[e]at h;cases h
 |some o=>rw[e]at h;exact⟨o,rfl,(JS h).symm⟩
structure G0(mg:Str->Option Uw):Prop where
 zip:mg "zip"=none
inductive m8(C:Ux)(vs:UG)(H:Hp)(Q:VK)(Z3:XK):Prop
 |mk(v u D:_)(n:Nat)(r:Rw):vs=[v,u,.int n]->Op C H v D->rf D->D.width<=24->FY H u r->FX D n r->(∀H',NJ H H'->Q (.bl true) H')->m8 C vs H Q Z3
def Pp:al [SQ,S6,Ul,TU,Tk] [SQ,S6,Ul] (ah mD):=bH zk
def Dx:(["name",Tg,"number",Ul,SQ]:UD).Nodup:=by decide +kernel
def xT(F:N1 K "is_row" "is_row" mD f fd)(T:Tc K C)(B:Bl mg)(B4:G0 mg)(FO:bB P w K mg base C "fields_of" 2 [SN,S0] (pE C))(IO:Fn P w K mg base "is_operand" 4 [SQ,Tg,S6,Ul] (i3 C)):NN P w K mg base br 5 f fd [SQ,S6,Ul] (m8 C):=by
 have ZZ:=Pp
 walk_at "o"
 ·obtain⟨v,u,D,n,r,rfl,hT,hD,hw,⟨p,t,rfl,hp,ht⟩,⟨hk,YS⟩,q⟩:=h;obtain⟨a,dx,pp,pm,pn,pk,us,rfl,ho,T',UK,U3,Wt,K9⟩:=id hT;obtain⟨f1,K7,M1,F1,B1⟩:=FO;refine⟨_,ae (aM (PW.pt (de (bP (bE (au (dn (T:="tuple")) (by rfl) B.isinstance ce (aa (pv 1) (aa (dU (by rfl) B.tuple aZ) ab)))))
     (de (ak fb (au aH (by rfl) B.len JI (aa (pv 1) ab)) ai)
     (cX (ak du (ax ar (pv 1) ai) (aK (pv 0) rfl) rfl))))) (ag (am cq)) aw)
   (ae (bS (i:=3) Pp.nd (aR (pv 0) (aa (ax ar (pv 1) ai) ab)))
   (ae (bS (i:=4) Pp.nd (ax ar (pv 1) ai))
   (ae (aM (PW.pt (de (bP (bE (au (dn (T:="tuple")) (by rfl) B.isinstance ce (aa (pv 4) (aa (dU (by rfl) B.tuple aZ) ab)))))
     (cX (ak fb (au aH (by rfl) B.len JI (aa (pv 4) ab)) (au aH (by rfl) B.len JI (aa (pv 3) ab)))))) (ag (am cq)) aw)
   (ag (am (au (cY rfl) (by rfl) B.all cG (aa (cI (N':=["name",Tg,"number",Ul,SQ]) (ix:=[none,none,none,some 2,some 0]) (sc0:=ah mD) (N:=[SQ,S6,Ul,TU,Tk]) rfl zk (mY true true rfl B4.zip (aa (pv 3) (aa (pv 4) ab)))
    (fun C' cl s H fp=>c9 (K:=K) (n:=2) rfl rfl (aq (c9 (K:=K) (n:=2) rfl rfl (aq (bM (i:=0) Dx) (aq (bM (i:=1) Dx) bi))) (aq (bM (i:=2) Dx) bi)))
    (fun _ _ _ _ _=>bz) (fun C' cl s H fp=>ap IO hr rfl (aa (pv 4) (aa (pv 1) (aa (pv 2) (aa (pv 3) ab)))))) ab))))))),?_⟩
  have hz:r.k.name∈D.kinds.map Kn.name:=Ks.mpr ⟨_,hk,rfl⟩;refine⟨_,rfl,_,_,_,rfl,.tup hp,rfl,_,rfl,bJ ?_⟩;refine⟨_,rfl,p,_,rfl,.inr (NL.of hp),rfl,_,rfl,aN (by simp) ?_⟩;refine⟨_,rfl,p,_,_,_,rfl,rfl,NL.of hp,rfl,_,rfl,a,C,dx,_,_,rfl,ho,T.cl,T.na TM zk,rfl,pn,_,rfl,.inr (NL.of U3),rfl,bu _,_,rfl,aN ?_ ?_⟩
  ·show(!kU (.str r.k.name) (aJ (D.kinds.map Kn.name)))=false;rw[cZ,J8.mpr hz];rfl
  refine⟨_,rfl,a,dx,C,f1,_,K7,2,[SN,S0],_,rfl,ho,rfl,T.cl,M1,F1,hr.m,B1,_,rfl,p,_,_,_,rfl,rfl,NL.of hp,rfl,_,D,r.k,rfl,hT,hD,hk,fun tf fu Vb Vc=>?_⟩;refine⟨_,rfl,p,_,_,_,rfl,rfl,NL.of hp,rfl,?_⟩;refine⟨_,rfl,_,_,_,rfl,.tup ht,rfl,_,rfl,bJ ?_⟩;have l1:=YS.length;have l2:=Vc.length;have l3:fu.length=(fM r.ops).length:=by unfold fM;rw[JC];lia
  refine⟨_,rfl,t,_,rfl,.inr (NL.of ht),_,rfl,tf,_,rfl,.inr (NL.of Vb),rfl,_,rfl,aN (by rw[l3];simp) ?_⟩;refine⟨_,rfl,_,rfl,tf,t,rfl,⟨_,NL.of Vb⟩,⟨_,NL.of ht⟩,?_⟩;have f3:=(hD.kf _ hk).2;have sz:(1000:Nat)<=sizeLine:=by decide
  refine mZ (b1:=true) (b2:=true) (K:=K) (l1:=tf) (l2:=t) (xs:=fu) (ys:=fM r.ops) l3 (fun i F' H'=>NJ H H'/\F'=(List.replicate i true).map V.bl) ⟨NJ.refl _,rfl⟩ (fun i F' H' hi⟨s1,e1⟩=>⟨NL.of (s1 _ _ Vb),NL.of (s1 _ _ ht),by rw[e1,JC,JM];lia⟩) ?_ ?_
  ·rintro i x y F' H' T1 hx hy nT ⟨s1,rfl⟩;obtain⟨fl,WA,fp,rfl,hfp⟩:=mP Vc hx;obtain⟨o,hoo,rfl⟩:=FZ hy;obtain⟨fl2,YU,hb⟩:=mP YS hoo;have e2:fl2=fl:=by
    rw[WA]at YU;exact(JS YU).symm
   subst e2;have s2:=af (o:=.tup [.ref fp,.int (o:Int)]) nT;have Lc:=s1.trans s2;refine⟨T1,_,rfl,NL.of ac,rfl,_,_,rfl,⟨fp,_,rfl,NL.of (Lc _ _ hfp),rfl,_,_,rfl,_,_,rfl,rfl,_,_,rfl,rfl,⟨rfl,rfl,trivial⟩,bC ?_⟩⟩;refine⟨_,rfl,_,rfl,_,rfl,_,rfl,_,D,fl2.2,o,n,rfl,hT.same Lc,hw,hb,?_⟩;refine Nx.mk (JA.mp hx).1 ⟨Lc,?_⟩;rw[v_,JR];rfl
  ·rintro F' H' ⟨s1,rfl⟩ D' VX;refine⟨D',List.replicate fu.length true,rfl,NQ.of ac,?_⟩;have:(List.replicate fu.length true).all id=true:=by simp
   rw[this];exact q _ (s1.trans (af VX))
def BJ(at_:V)(p m c l:Ux)(wd ft:V):List (Str×V):=[(Ui,at_),(SZ,.ref p),(S5,.ref m),(S1,.ref c),(Ud,.ref l),(S8,wd),(S3,ft)]
structure Sc(K:ZF)(C:Ux):Prop where
 cl:Px K C
 n1:N3 K C Ui
 n2:N3 K C SZ
 n3:N3 K C S5
 n4:N3 K C S1
 n5:N3 K C Ud
 n6:N3 K C S8
 n7:N3 K C S3
structure Ow(C:Ux)(H:Hp)(x dx p m c l:Ux)(at_:V)(ps ms cs ls:UG)(wd ft:V):Prop where
 ex:H x=some (.ins C dx (BJ at_ p m c l wd ft))
 ep:H p=some (.lst ps)
 em:H m=some (.lst ms)
 ec:H c=some (.lst cs)
 el:H l=some (.lst ls)
 pm:p≠m
 pc:p≠c
 pl:p≠l
 mc:m≠c
 ml:m≠l
 cl:c≠l
variable{H H':Hp}
def Ow.same{x dx p m c l:Ux}{at_:V}{ps ms cs ls:UG}{wd ft:V}(h:Ow C H x dx p m c l at_ ps ms cs ls wd ft)(s:NJ H H'):Ow C H' x dx p m c l at_ ps ms cs ls wd ft:=⟨s _ _ h.ex,s _ _ h.ep,s _ _ h.em,s _ _ h.ec,s _ _ h.el,h.pm,h.pc,h.pl,h.mc,h.ml,h.cl⟩
def jE{C x dx q:Ux}{fs:List (Str×V)}{ys:UG}{f:Str}(hx:H x=some (.ins C dx fs))(nq:H q=none):∃H',az (az H q (.lst ys)) x (.ins C dx (aT f (.ref q) fs))=H'/\H' x=some (.ins C dx (aT f (.ref q) fs))/\H' q=some (.lst ys)/\NX x H H':=by
 have qx:q≠x:=by
  rintro rfl;rw[nq]at hx;cases hx
 refine⟨_,rfl,ac,?_,fun b o hb hn=>?_⟩
 ·rw[ao qx];exact ac
 ·rw[ao hn];exact af nq _ _ hb
abbrev rj:Stmt:=bO hI 0
inductive Au(C:Ux)(vs:UG)(H:Hp)(Q:VK)(Z3:XK):Prop
 |mk(x dx p m c l:Ux)(at_:V)(ps ms cs ls:UG):vs=[.ref x,at_,.ref p,.ref m,.ref c,.ref l]->H x=some (.ins C dx [])->H p=some (.lst ps)->H m=some (.lst ms)->H c=some (.lst cs)->H l=some (.lst ls)->(∀H' p' m' c' l',Ow C H' x dx p' m' c' l' at_ ps ms cs ls (.str "on") .non->H p'=none->H m'=none->H c'=none->H l'=none->NX x H H'->Q .non H')->Au C vs H Q Z3
def HV:al [SN,Ui,SZ,S5,S1,Ud] [SN,Ui,SZ,S5,S1,Ud] (ah rj):=bH zk
def F0(F:N1 K "__init__" "State.__init__" rj f fd)(T:Sc K C)(B:Bl mg):NN P w K mg base br 1 f fd [SN,Ui,SZ,S5,S1,Ud] (Au C):=by
 have ZZ:=HV
 walk_at "o"
 ·obtain⟨x,dx,p,m,c,l,at_,ps,ms,cs,ls,rfl,hx,hp,hm,hc,hl,q⟩:=h;refine⟨_,ae (bQ (pv 0) (pv 1) rfl) (ae (bQ (pv 0) (aV dv (by rfl) B.list cm (aa (pv 2) ab)) rfl) (ae (bQ (pv 0) (aV dv (by rfl) B.list cm (aa (pv 3) ab)) rfl) (ae (bQ (pv 0) (aV dv (by rfl) B.list cm (aa (pv 4) ab)) rfl) (ae (bQ (pv 0) (aV dv (by rfl) B.list cm (aa (pv 5) ab)) rfl) (ae (bQ (pv 0) aj rfl) (ag (bQ (pv 0) cN rfl))))))),?_⟩;have nx:∀{a:Ux}{us:UG},H a=some (.lst us)->a≠x:=fun h e=>by rw[e,hx]at h;cases h
  refine⟨_,rfl,_,rfl,x,C,dx,_,rfl,hx,T.cl,T.n1,(by show 0<1000;decide),?_⟩;have x1:(az H x (.ins C dx (aT Ui at_ []))) x=some (.ins C dx (aT Ui at_ [])):=ac;have b1:NX x H (az H x (.ins C dx (aT Ui at_ []))):=fun b o e n=>by rw[ao n];exact e
  generalize az H x (.ins C dx (aT Ui at_ []))=H1 at*;refine⟨_,rfl,p,ps,rfl,.inl (NQ.of (b1 _ _ hp (nx hp))),fun p' np=>⟨_,rfl,x,C,dx,_,rfl,af np _ _ x1,T.cl,T.n2,(by show 1<1000;decide),?_⟩⟩;obtain⟨H2,e,x2,p2,b2⟩:=jE (f:=SZ) (ys:=ps) x1 np;rw[e];clear e;have px:p'≠x:=(aI x1 np).symm;have b2:=b1.trans b2;refine⟨_,rfl,m,ms,rfl,.inl (NQ.of (b2 _ _ hm (nx hm))),fun m' nm=>⟨_,rfl,x,C,dx,_,rfl,af nm _ _ x2,T.cl,T.n3,(by show 2<1000;decide),?_⟩⟩;obtain⟨H3,e,x3,m3,b3⟩:=jE (f:=S5) (ys:=ms) x2 nm;rw[e];clear e;have mx:m'≠x:=(aI x2 nm).symm;have pm:=aI p2 nm;have p3:=b3 _ _ p2 px;have b3:=b2.trans b3;refine⟨_,rfl,c,cs,rfl,.inl (NQ.of (b3 _ _ hc (nx hc))),fun c' nc=>⟨_,rfl,x,C,dx,_,rfl,af nc _ _ x3,T.cl,T.n4,(by show 3<1000;decide),?_⟩⟩;obtain⟨H4,e,x4,c4,b4⟩:=jE (f:=S1) (ys:=cs) x3 nc;rw[e];clear e;have cx:c'≠x:=(aI x3 nc).symm;have pc:=aI p3 nc;have mc:=aI m3 nc;have p4:=b4 _ _ p3 px;have m4:=b4 _ _ m3 mx;have b4:=b3.trans b4;refine⟨_,rfl,l,ls,rfl,.inl (NQ.of (b4 _ _ hl (nx hl))),fun l' nl=>⟨_,rfl,x,C,dx,_,rfl,af nl _ _ x4,T.cl,T.n5,(by show 4<1000;decide),?_⟩⟩;obtain⟨H5,e,x5,l5,b5⟩:=jE (f:=Ud) (ys:=ls) x4 nl;rw[e];clear e;have lx:l'≠x:=(aI x4 nl).symm;have pl:=aI p4 nl;have ml:=aI m4 nl;have cl:=aI c4 nl;have p5:=b5 _ _ p4 px;have m5:=b5 _ _ m4 mx;have c5:=b5 _ _ c4 cx;have b5:=b4.trans b5;refine⟨_,rfl,x,C,dx,_,rfl,x5,T.cl,T.n6,(by show 5<1000;decide),?_⟩;refine⟨_,rfl,x,C,dx,_,rfl,ac,T.cl,T.n7,(by show 6<1000;decide),?_⟩;have Y5:∀{H':Hp}{a:Ux},NX x H H'->a≠x->H' a=none->H a=none:=fun{H' a}b ne h=>by
   cases e:H a with
   |none=>rfl
   |some o=>rw[b _ _ e ne]at h;cases h
  refine q _ p' m' c' l' ⟨by rw[ac];rfl,?_,?_,?_,?_,pm,pc,pl,mc,ml,cl⟩ (Y5 b1 px np) (Y5 b2 mx nm) (Y5 b3 cx nc) (Y5 b4 lx nl) fun b o hb hn=>by rw[ao hn,ao hn];exact b5 _ _ hb hn
  ·rw[ao px,ao px];exact p5
  ·rw[ao mx,ao mx];exact m5
  ·rw[ao cx,ao cx];exact c5
  ·rw[ao lx,ao lx];exact l5
end
abbrev z0(n:Nat):UG:=List.replicate n (.int 0)
inductive ii(vs:UG)(H:Hp)(Q:VK)(Z3:XK):Prop
 |mk(a:Ux)(n:Nat)(XF hi:Int):vs=[.ref a,.int XF,.int hi]->H a=some (.lst (z0 n))->(n:Int)<=XF->n<=1000->0<=hi->(∀H',NJ H H'->Q (.bl true) H')->ii vs H Q Z3
inductive kz(vs:UG)(H:Hp)(Q:VK)(Z3:XK):Prop
 |mk(a:Ux)(n:Nat)(hi:Int):vs=[.ref a,.int n,.int hi]->H a=some (.lst (z0 n))->n<=1000->0<=hi->(∀H',NJ H H'->Q (.bl true) H')->kz vs H Q Z3
inductive rl(C:Ux)(vs:UG)(H:Hp)(Q:VK)(Z3:XK):Prop
 |mk(v:V)(D:Fm):vs=[v]->Op C H v D->D.width<=24->Q (.int (2^D.width-1)) H->rl C vs H Q Z3
section
def xU:al [S6,T8,Tr] [S6,T8,Tr] (ah jA):=bH zk
def HX:(["number",Tr]:UD).Nodup:=by decide +kernel
def uY(F:N1 K "is_list_to" "is_list_to" jA f fd)(B:Bl mg)(WI:Fn P w K mg base "is_within" 2 [S6,Uf,Tr] dH):NN P w K mg base br 3 f fd [S6,T8,Tr] ii:=by
 have ZZ:=xU
 walk_at "o"
 ·obtain⟨a,n,XF,hi,rfl,ha,hn,h1,h0,q⟩:=h;have sz:(1000:Nat)<=sizeLine:=by decide
  refine⟨_,ae (aM (PW.pt (de (bP (bE (au (dn (T:="list")) (by rfl) B.isinstance ce (aa (pv 0) (aa (dU (by rfl) B.list cm) ab)))))
     (cX (ak sC (au aH (by rfl) B.len JI (aa (pv 0) ab)) (pv 1))))) (ag (am cq)) aw)
   (ag (am (au (cY rfl) (by rfl) B.all cG (aa (cI (N':=["number",Tr]) (ix:=[none,some 2]) (sc0:=ah jA) (N:=[S6,T8,Tr]) rfl zk (bV (pv 0))
    (fun C' cl s H fp=>bM (i:=0) HX)
    (fun _ _ _ _ _=>bz) (fun C' cl s H fp=>ap WI hr rfl (aa (pv 0) (aa ai (aa (pv 1) ab))))) ab)))),?_⟩
  refine⟨_,rfl,_,_,_,rfl,.lst ha,rfl,_,rfl,bJ ?_⟩;refine⟨_,rfl,a,_,rfl,.inl (NQ.of ha),_,rfl,_,_,rfl,rfl,_,rfl,aN (d_ (by rw[JM];lia)) ?_⟩;refine⟨_,rfl,a,rfl,⟨_,NQ.of ha⟩,?_⟩;refine db (K:=K) (a:=a) (xs:=z0 n) (fun i ys H'=>H'=H/\ys=(List.replicate i true).map V.bl) ⟨rfl,rfl⟩ (fun i ys H' Xa⟨eh,ey⟩=>⟨by rw[eh];exact NQ.of ha,by rw[ey,JC,JM];rw[JM]at Xa;lia⟩) ?_ ?_
  ·rintro i y ys H2 hy ⟨rfl,rfl⟩;have VB:y=.int 0:=(List.mem_replicate.mp (JP hy)).2;subst VB;refine⟨⟨rfl,trivial⟩,?_⟩;refine⟨_,rfl,_,rfl,_,_,_,rfl,Int.le_refl _,h0,Nx.mk (JA.mp hy).1 ⟨rfl,?_⟩⟩;rw[v_,JR];rfl
  ·rintro ys H2 ⟨rfl,rfl⟩ l3 n3;have s3:=af (o:=.lst ((List.replicate (z0 n).length true).map V.bl)) n3;refine⟨l3,_,rfl,NQ.of ac,?_⟩;have:(List.replicate (z0 n).length true).all id=true:=by simp
   rw[this];exact q _ s3
def xV:al [S6,T8,Tr] [S6,T8,Tr] (ah mE):=bH zk
def uZ(F:N1 K "is_list_of" "is_list_of" mE f fd)(B:Bl mg)(LT:Fn P w K mg base "is_list_to" 3 [S6,T8,Tr] ii):NN P w K mg base br 4 f fd [S6,T8,Tr] kz:=by
 have ZZ:=xV
 walk_at "o"
 ·obtain⟨a,n,hi,rfl,ha,h1,h0,q⟩:=h;refine⟨_,ag (am (cP (ap LT hr rfl (aa (pv 0) (aa (pv 1) (aa (pv 2) ab)))) (cO (bK aY (au aH (by rfl) B.len JI (aa (pv 0) ab)) (pv 1))))),?_⟩;refine⟨_,rfl,_,rfl,_,rfl,a,n,_,hi,rfl,ha,Int.le_refl _,h1,h0,fun H1 s1=>⟨_,rfl,eQ ?_⟩⟩;refine⟨_,rfl,a,_,rfl,.inl (NQ.of (s1 _ _ ha)),_,rfl,rfl,?_⟩;have:Q (.bl true) H1:=q H1 s1;rw[show decide (V.int ((z0 n).length:Int)=V.int (n:Int))=true from b_ (by rw[JM])];exact this
def Dy:al [SQ] [SQ] (ah wR):=bH zk
def Av(F:N1 K "highest_word" "highest_word" wR f fd)(T:Tc K C):NN P w K mg base br 1 f fd [SQ] (rl C):=by
 have ZZ:=Dy
 walk_at "o"
 ·obtain⟨v,D,rfl,⟨a,dx,pp,pm,pn,pk,us,rfl,ho,T',UK,U3,Wt,K9⟩,hw,q⟩:=h;refine⟨_,ag (am (aX iB (aX lX ai (aK (pv 0) rfl)) ai)),?_⟩;refine⟨_,rfl,a,C,dx,_,_,rfl,ho,T.cl,T.na _ zd,rfl,_,_,rfl,rfl,⟨by lia,by lia,zd⟩,_,_,rfl,rfl,?_⟩;have e:(1:Int)*2^((D.width:Int)).toNat-1=2^D.width-1:=by
   have e1:((D.width:Int)).toNat=D.width:=by lia
   rw[e1,Int.one_mul]
  rw[e];exact q
variable{H:Hp}
def Aw{l0:Ux}{k:Int}{n:Nat}{Q:VK}(ek:k=n)(hn:n<=1000)(e0:H l0=some (.lst [.int 0]))(q:∀l1,H l1=none->Q (.ref l1) (az H l1 (.lst (z0 n)))):Cv (.ref l0) (.int k) H Q:=by
 subst ek;have sz:(1000:Nat)<=sizeLine:=by decide
 refine⟨l0,n,[.int 0],rfl,rfl,e0,by lia,by lia,by simp;lia,fun p hp=>?_⟩;have:=q p hp;rw[Kq,List.flatten_replicate_singleton];exact this
def BK(n:Nat):(0:Int)<=2^n-1:=by
 have:(0:Int)<2^n:=Int.pow_pos zd;lia
def none_of{H H':Hp}{x:Ux}(s:NJ H H')(h:H' x=none):H x=none:=by
 cases e:H x with
 |none=>rfl
 |some o=>rw[s _ _ e]at h;cases h
structure Zh(mg:Str->Option Uw)(tm:Tok):Prop where
 hr:mg "HIGHEST_ROW"=some (.int 999 tm)
abbrev Dz:UD:=[SQ,Ui,SZ,S5,S1,Ud]
abbrev DA(tk:Tok):Array Uw:=#[.int 0 tk,.none,.none,.none,.none]
end
end L3
namespace L2
open PySem PySem.Spec PyProof.Rows
def xW:fillsInplaceSlot (.type "list") "add" true=pure false:=by rfl
def xX:fillsNumberSlot (.type "list") "add"=pure false:=by rfl
def xY:seqSlot? (.type "list") (dunderI "add")=pure (some (.builtin "list.__iadd__")):=by rfl
def nh(ha:s.TypeIs a "list")(hb:s.TypeIs b "list")(h:wpAny M A (call (.builtin "list.__iadd__") [a,b]) Q E s):wpAny M A (inplaceOp .Add a b) Q E s:=by
 unfold inplaceOp;refine s_ (a_ (Sg ha ?_));refine a_ ?_;show wpAny M A (fillsInplaceSlot (.type "list") "add" true) _ E s;rw[xW];refine c_ ?_;rw[e_ zd];refine a_ (wpAny_binaryOp1_none ha hb xX ?_);refine a_ ?_;show wpAny M A (seqSlot? (.type "list") (dunderI "add")) _ E s;rw[xY];refine c_ ?_;exact a_ (R1 h)
section
inductive BL(x:V)(y:V)(H:Hp)(Q:VK):Prop
 |mk(l b xs zs:_):x=.ref l->y=.ref b->H l=some (.lst xs)->H b=some (.lst zs)->xs.length+zs.length<=sizeLine->Q (.ref l) (az H l (.lst (xs++zs)))->BL x y H Q
def DB:Hl X .Add BL:=by
 intro K3 s σ H x y v u Q I rx ry h;obtain⟨l,b,xs,zs,rfl,rfl,hH,hB,hz,q⟩:=h;cases rx;cases ry;obtain⟨z,f',n,r,hl,e⟩:=I.lstM hH;obtain⟨z2,U2,n2,r2,V',e2⟩:=I.lstM hB;refine nh ⟨_,e,rfl⟩ ⟨_,e2,rfl⟩ ?_;have hsz:f'.toArray.size+U2.toArray.size<=sizeLine:=by rw[JJ,JJ];lia
 have Wl:¬(!f'.toArray.isEmpty&&Builtin.List.listTooLong (f'.toArray.size+U2.toArray.size))=true:=by
  rw[oP hsz,Bool.and_false];exact JK
 refine R3 F.slot_list_iadd ⟨_,e,rfl⟩ F.entry_list_iadd (F.args_list_iadd_2 _ _) (PySem.AutoSeq1.list___iadd___list_list_0 l f'.toArray n b U2.toArray n2 Wl (by rw[JJ];lia) zo) ⟨e,e2,?_⟩
 ·refine⟨.ref l,_,I.lset (its':=f'++U2) hH e (by simp) (r.append r2) ?_,rfl,q⟩;rw[JH];lia
end
end L2
namespace L3
open PySem L2
def cp(z:Str):UE:=z.cps.toList
def pG(z:Str):S (cp z)=z:=(wS z).symm
def HY(l:UE):cp (S l)=l:=rfl
def xZ(l:UD):(l.map cp).map S=l:=by
 rw[KR];refine Eq.trans ?_ (List.map_id l);exact List.map_congr_left fun z _=>pG z
end L3
namespace L2
open PySem PySem.Spec PyProof.Rows
abbrev ni(f':List Uw)(k:Nat):Obj:={cls:=.type "list",data:=.seq f'.toArray k}
def x6(S' t1 i1 t2 i2:Expr)(L':List Expr)(sc:Scope)(pos:Pos)(it G':Uw)(env:Env):
  compTurn (.ListComp S' [⟨t1,i1,[],0⟩,⟨t2,i2,L',0⟩] sc pos) 0 it G' env=(standAt i1.pos>>=fun _=>pyNext it>>=fun r=>match r with
   |none=>pure (.done .next)
   |some v=>letOwnedTupleGo t1 it v>>=fun _=>assign t1 env v>>=fun _=>
    eval i2 env>>=fun x=>standAt i2.pos>>=fun _=>foldedSetIterable i2 env x>>=fun x=>holding [x] (pyIter x)>>=fun jt=>
     runOwn (.compStart (.ListComp S' [⟨t1,i1,[],0⟩,⟨t2,i2,L',0⟩] sc pos) 1 jt G' env) env>>=fun _=>
     again (.compLoop (.ListComp S' [⟨t1,i1,[],0⟩,⟨t2,i2,L',0⟩] sc pos) 0 it G' env)):=by rfl
def Ax(S' t1 i1 t2 i2:Expr)(L':List Expr)(sc:Scope)(pos:Pos)(it G':Uw)(env:Env):
  compTurn (.ListComp S' [⟨t1,i1,[],0⟩,⟨t2,i2,L',0⟩] sc pos) 1 it G' env=(do
   standAt i2.pos
   let r <-pyNext it
   match r with
   |none=>pure (.done .next)
   |some v=>
    letOwnedTupleGo t2 it v
    assign t2 env v
    let mut yes:=true
    for c in L' do
     if yes then yes <-isTrue c env (eval c env)
    if yes then
     (do let _ <-call (.builtin "list.append") [G',<-eval S' env])
    again (.compLoop (.ListComp S' [⟨t1,i1,[],0⟩,⟨t2,i2,L',0⟩] sc pos) 1 it G' env)):=by rfl
section
variable{prog:Uz}{w:UA}{A:UB}{R:Result->Uy->Prop}{s:Uy}
def x9{S' t1 i1 t2 i2:Expr}{L':List Expr}{sc:Scope}{pos:Pos}{it G':Uw}{env:Env}
  (a:codeAny (model prog w) A (.compLoop (.ListComp S' [⟨t1,i1,[],0⟩,⟨t2,i2,L',0⟩] sc pos) 1 it G' env) R s)
  (b:wpAny (model prog w) A (pyIter it) (fun jt s'=>codeAny (model prog w) A (.compLoop (.ListComp S' [⟨t1,i1,[],0⟩,⟨t2,i2,L',0⟩] sc pos) 1 jt G' env) R s')
   (notedBy (model prog w) A env fun x s'=>R (.error x) s') s) :
  codeAny (model prog w) A (.compStart (.ListComp S' [⟨t1,i1,[],0⟩,⟨t2,i2,L',0⟩] sc pos) 1 it G' env) R s:=by
 refine codeAny_of_tree ?_;show wpAny _ _ ((compStart (.ListComp S' [⟨t1,i1,[],0⟩,⟨t2,i2,L',0⟩] sc pos) 1 it G' env).onRaise (fun x=>do noteFrame x env;standAt theWindowsPlace)) _ _ s;refine wpAny_notedAt ?_;unfold compStart;show wpAny _ _ (ask>>=_) _ _ s;refine a_ (wpAny_askSetting (wpAny_ite ?_));split
 ·first
   |exact a_ (c_ (c_ (And.intro rfl a)))
   |exact c_ (And.intro rfl a)
 ·refine a_ (R1 ?_);show wpAny _ _ (standAt i2.pos>>=_) _ _ s;exact a_ (o_ (a_ (h_ b (fun jt s' q=>c_ (And.intro rfl q)) fun _ _ x=>x)))
end
def pH(J:It)(g:TG)(tf:TT)(te:TE)(σ:St)(ys:UG)(H1:Hp)(Q:UG->Hp->Prop):Prop:=∃W:Nat->Nat->UG->Hp->Prop,(∃m,W 0 m ys H1)/\∀i m ys H,W i m ys H->
 (J.stop i H/\ys.length<=sizeLine/\Q ys H) ∨
 (J.go i H/\ys.length<=sizeLine/\∀x H',J.yld i H x H'->g x σ H' fun σ2 H2=>Ob σ σ2/\tf σ2 H2 fun b H3=>if b=true then te σ2 H3 fun y H4=>∃m',m'<m/\W (i+1) m' (ys++[y]) H4 else ∃m',m'<m/\W (i+1) m' ys H3)
def tu(J:It)(g:TG)(Vx:TI)(g2:TG)(tf:TT)(te:TE)(ix:List (Option Nat))(σ:St)(H1:Hp)(Q:VK):Prop:=∃W:Nat->Nat->UG->Hp->Prop,(∃m,W 0 m [] H1)/\∀i m ys H,W i m ys H->
 (J.stop i H/\ys.length<=sizeLine/\∀D,H D=none->Q (.ref D) (az H D (.lst ys))) ∨
 (J.go i H/\∀x H',J.yld i H x H'->g x (eG ix σ) H' fun σ2 H2=>Ob (eG ix σ) σ2/\Vx σ2 H2 fun J2 H3=>pH J2 g2 tf te σ2 ys H3 fun F' H4=>∃m',m'<m/\W (i+1) m' F' H4)
def DC(wi:TI)(g:TG)(Vx:TI)(g2:TG)(tf:TT)(te:TE)(ix:List (Option Nat)):TE:=fun σ H Q=>wi σ H fun J H1=>tu J g Vx g2 tf te ix σ H1 Q
section
variable{H:Hp}{X:Cx}
def Of.less{p q:List (Ux×Obj)}{b:Ux}(h:Of X p H b)(s:∀x∈q,x∈p):Of X q H b:=
 ⟨h.1,h.2.1,h.2.2.1,h.2.2.2.1,h.2.2.2.2.1,fun x hx=>h.2.2.2.2.2 x ((Kc.mp hx).elim (fun z=>JZ _ z) fun z=>JE _ (s x z))⟩
def F5{X:Cx}{S' t1 i1 t2 i2:Expr}{L':List Expr}{sc:Scope}{pos:Pos}{g:TG}{tf:TT}{te:TE}{K3:List (Ux×Obj)}{σ:St}{H:Hp}{s:Uy}{D it:Ux}{fp:List Ux}{tn:Nat->Heap->Prop}{J:It}{f':List Uw}{k:Nat}{ys:UG}{Q:UG->Hp->Prop}
  (hc:X.calm=true) (hxe:X.xe=fun _ _=>False) (hg:PG X t2 g) (hf:PF X L' tf) (he:PE X S' te) (I:NO X K3 σ H s) (oD:s.heap.get? D=some (ni f' k)) (hD:H D=none) (dL:D≠X.env.locals) (dF:D∉X.fs) (dS:X.s₀.heap.objs.size<=D)
  (dC:∀x c,X.env.cells.lookup x=some c->c≠D) (dP:∀p∈X.pn++K3,p.1≠D) (vv:NV ys f') (T:kX X.prog X.w X.K t2 J fp it tn) (st:tn 0 s.heap) (f2:∀b∈fp,Of X K3 H b) (fD:∀b∈fp,b≠D) (h:pH J g tf te σ ys H Q) :
  codeAny (model X.prog X.w) X.A (.compLoop (.ListComp S' [⟨t1,i1,[],0⟩,⟨t2,i2,L',0⟩] sc pos) 1 (.ref it) (.ref D) X.env)
   (fun r s'=>r=.ok .next/\∃F' its' k' H',NO X K3 σ H' s'/\s'.heap.get? D=some (ni its' k')/\H' D=none/\NV F' its'/\Q F' H') s:=by
 obtain⟨W,⟨m0,w0⟩,UU⟩:=h;refine SJ rfl (fun n s'=>∃i ys H' f' k,NO X K3 σ H' s'/\tn i s'.heap/\(∀b∈fp,H' b=none)/\H' D=none/\NV ys f'/\s'.heap.get? D=some (ni f' k)/\W i n ys H') ?_ m0 ⟨0,ys,H,f',k,I,st,fun b hb=>(f2 b hb).1,hD,vv,oD,w0⟩;rintro n s5 ⟨i,ys,H5,f',k,I5,VG,V7,Vt,vv,oD,w5⟩;show wpAny _ X.A ((compTurn (.ListComp S' [⟨t1,i1,[],0⟩,⟨t2,i2,L',0⟩] sc pos) 1 (.ref it) (.ref D) X.env).onRaise (fun x=>do noteFrame x X.env;theTreesLotGoes x)) _ _ s5;refine wpAny_noted ?_;rw[Ax];have Xf:NO X ((D,ni f' k)::K3) σ H5 s5:=I5.pins_of fun p hp=>by
  rcases JT.mp hp with rfl|hp
  ·exact⟨oD,Vt,dL,dF,fun v z=>nomatch z⟩
  ·exact I5.pin p (JE _ hp)
 have VN:∀{H':Hp},(∀b∈fp,H' b=none)->∀b∈fp,Of X ((D,ni f' k)::K3) H' b:=fun{H'}hn b hb=>by
  obtain⟨_,a1,a2,a3,a4,a5⟩:=f2 b hb;refine⟨hn b hb,a1,a2,a3,a4,fun p hp=>?_⟩;rcases Kc.mp hp with z|z
  ·exact a5 p (JZ _ z)
  ·rcases JT.mp z with rfl|z
   ·exact(fD b hb).symm
   ·exact a5 p (JE _ z)
 rcases UU i n ys H5 w5 with⟨stop,hz,qn⟩|⟨go,hz,step⟩
 ·refine a_ (o_ (a_ (h_ (T.done X rfl rfl rfl hc i _ s5 σ H5 (fun _ _=>False) Xf (VN V7) VG stop) (fun r s6⟨hr,I6⟩=>?_) fun _ _ f=>f.elim)));subst hr;exact c_ ⟨rfl,ys,f',k,H5,I6.pins_of fun p hp=>I6.pin p (JE _ (JV _ hp)),(I6.pin (D,ni f' k) (JE _ JF)).1,Vt,vv,qn⟩
 ·refine a_ (o_ (a_ (h_ (T.item X rfl rfl rfl hc i _ s5 σ H5 (fun _ _=>False) Xf (VN V7) VG go) (fun r s6⟨u,hr,h6⟩=>?_) fun _ _ f=>f.elim)));subst hr;refine a_ (h_ h6 (fun _ s7 hZZ=>?_) fun _ _ f=>f.elim);obtain⟨x,H7,I7,r7,y7,VF,XB⟩:=hZZ;have XC:=I7.pinned (VN XB) (T.obj _ _ VF);have Z_:∀(e:Uw)(s':Uy),X.xe e s'->False:=fun e s' z=>by rw[hxe]at z;exact z
  refine a_ (h_ (hg _ s7 σ H7 x u _ XC r7 (step x H7 y7)) (fun _ s8 hZZ=>?_) fun _ _ f=>(Z_ _ _ f).elim);obtain⟨σ8,H8,I8,x8,q8⟩:=hZZ;obtain⟨xl,xv⟩:=x8.spec;have UW:∀{σ9:St}{H9:Hp}{s9:Uy}{pl:List (Ux×Obj)},(∀p∈ck fp s7.heap,p∈pl)->NO X pl σ9 H9 s9->tn (i+1) s9.heap/\∀b∈fp,H9 b=none:=fun{σ9 H9 s9 pl}hp I9=>by
   have pn:∀b o,b∈fp->s7.heap.get? b=some o->s9.heap.get? b=some o/\H9 b=none:=fun b o hb e=>by
    have:=I9.pin (b,o) (JE _ (hp _ (da hb e)));exact⟨this.1,this.2.1⟩
   refine⟨T.keep _ _ _ VF fun b hb o e=>(pn b o hb e).1,fun b hb=>?_⟩;obtain⟨o,e,_⟩:=T.obj _ _ VF b hb;exact(pn b o hb e).2
  refine a_ (h_ (hf _ s8 σ8 H8 _ I8 q8) (fun ok s9⟨H9,I9,q9⟩=>?_) fun _ _ f=>(Z_ _ _ f).elim);have pD:∀{σ9:St}{H9:Hp}{s9:Uy},NO X ((D,ni f' k)::K3++ck fp s7.heap) σ9 H9 s9->s9.heap.get? D=some (ni f' k)/\H9 D=none:=fun{σ9 H9 s9}I9=>by
   have:=I9.pin (D,ni f' k) (JE _ (JZ _ JF));exact⟨this.1,this.2.1⟩
  cases ok with
  |false=>
   obtain⟨m',hm,w9⟩:=(show ∃m',m'<n/\W (i+1) m' ys H9 from by simpa using q9);obtain⟨t9,WU⟩:=UW (fun p hp=>JE _ hp) I9;obtain⟨Z4,hD9⟩:=pD I9;exact c_ ⟨rfl,m',hm,i+1,ys,H9,f',k,(I9.pins_of (pins':=K3) fun p hp=>I9.pin p (JE _ (JZ _ (JV _ hp)))).weak xl xv,t9,WU,hD9,vv,Z4,w9⟩
  |true=>
   have Z1:te σ8 H9 fun y H4=>∃m',m'<n/\W (i+1) m' (ys++[y]) H4:=by simpa using q9
   refine a_ (a_ (h_ (he _ s9 σ8 H9 _ I9 Z1) (fun yv sA hZZ=>?_) fun _ _ f=>(Z_ _ _ f).elim));obtain⟨y,HA,IA,rA,m',hm,wA⟩:=hZZ;obtain⟨Yb,Xy⟩:=pD IA;have hsz:f'.toArray.size<=sizeLine:=by rw[JJ,<-vv.length];exact hz
   refine a_ (wpAny_list_append_plain (hsz:=hsz) ⟨_,Yb⟩ fun h9 Z2 ZR=>?_);have IB:NO X (K3++ck fp s7.heap) σ8 HA sA:=IA.pins_of fun p hp=>IA.pin p (JE _ ((Kc.mp hp).elim (fun z=>JZ _ (JV _ z)) fun z=>JE _ z));have IC:NO X (K3++ck fp s7.heap) σ8 HA {sA with heap:=h9}:=IB.turned (it:=D) (t':=sA.toks) (fun b o hb e=>(ZR.2 b hb).trans e) Xy dL (.inr dS) dC fun p hp=>by
    rcases Kc.mp hp with z|z
    ·exact dP p (JZ _ z)
    ·rcases Kc.mp z with z|z
     ·exact dP p (JE _ z)
     ·exact fD p.1 (fT z).1
   obtain⟨t9,WU⟩:=UW (fun p hp=>JE _ hp) IC;obtain⟨k',Z6⟩:=Z2;refine c_ (c_ ⟨rfl,m',hm,i+1,ys++[y],HA,f'++[yv],k',IC.unpinned.weak xl xv,t9,WU,Xy,vv.append (.cons rA .nil),?_,wA⟩);show h9.get? D=_;rw[Z6];simp
section
variable{X:Cx}{tg S' iter t2 i2:Expr}{L':List Expr}{sc sc0:Scope}{N N':UD}{ix:List (Option Nat)}{pos:Pos}{wi Vx:TI}{g g2:TG}{tf:TT}{te:TE}
def pI{K3:List (Ux×Obj)}{σ:St}{H:Hp}{s:Uy}{Q:VK}{use:Option (Uw->Sem Unit)}{Qf:Uw->Uy->Prop}{B':Pos}(hc:X.calm=true)(Vh:jX X.N X.env.scope sc N' ix=true)(hi:PI X tg iter wi)
  (hg:∀C cl s H fp,PG (cV X sc N' C cl s H fp) tg g) (Ys:∀C cl s H fp,PI (cV X sc N' C cl s H fp) t2 i2 Vx) (Yt:∀C cl s H fp,PG (cV X sc N' C cl s H fp) t2 g2) (hf:∀C cl s H fp,PF (cV X sc N' C cl s H fp) L' tf) (he:∀C cl s H fp,PE (cV X sc N' C cl s H fp) S' te)
  (Vq:∀C cl x,foldedSetIterable i2 (compEnvC sc cl C X.env) x=pure x)
  (hs:∀x,foldedSetIterable iter X.env x=pure x) (I:NO X K3 σ H s) (h:DC wi g Vx g2 tf te ix σ H Q)
  (VQ:∀(C D:Ux)(H':Hp)(s':Uy),OU X K3 σ H' s' C->Q (.ref D) H'->compPost (model X.prog X.w) X.A X.xe use Qf (.ref D) C (.ok .next) s') :
  wpAny (model X.prog X.w) X.A (comprehension (.ListComp S' [⟨tg,iter,[],0⟩,⟨t2,i2,L',0⟩] sc pos) sc X.env B' (newList []) false (eval iter X.env) use) Qf X.xe s:=by
 obtain⟨hk,K4,UO,UJ,Va,WR⟩:=fU Vh;obtain⟨cl,e1,e2,e3⟩:=gC (env:=X.env) (sc:=sc) (fun x hx hf=>I.ok.has x.1 (UJ x hx hf));refine R6 (use:=use) (cl:=cl) rfl hs e1 hk Va (bN (hi K3 s σ H _ I h) fun v s1 h1=>bN h1 fun XR s2 h2=>?_);obtain⟨it,fp,tn,J,H2,e,I2,T,V2,f2,W,⟨m0,w0⟩,UU⟩:=h2;subst e;refine l_ (Sm UO (by intro y hy;simp at hy) (fun h₁ Ve U6=>?_) hk);dsimp only at Ve U6⊢;generalize hH2:s2.heap.push {cls:=.type "list",dict:=none,data:=.seq ([]:List Uw).toArray}=G2 at Ve U6⊢;have Xz:G2.objs.size=s2.heap.objs.size+1:=by rw[<-hH2,Kl]
 have WS:s2.heap.objs.size≠G2.objs.size:=by rw[Xz];exact JO (Kv _)
 have VR:s2.heap.objs.size<=G2.objs.size:=by rw[Xz];exact Nat.le_succ _
 have J':∀b,b<s2.heap.objs.size->b≠G2.objs.size:=fun b hb=>by rw[Xz];exact JO (RR hb)
 have UR:∀b,b<s2.heap.objs.size->b≠s2.heap.objs.size:=fun b hb=>JO hb;have UH:∀b o,s2.heap.get? b=some o->h₁.get? b=some o:=fun b o e=>U6.extBut b o (J' b (JD e)) (Jz _ (hH2▸Jz _ e));have Vv:h₁.get? s2.heap.objs.size=some {cls:=.type "list",data:=.seq ([]:List Uw).toArray}:=U6.extBut _ _ WS (Jz _ (hH2▸JG _ rfl));have fo:∀b∈fp,∃o,s2.heap.get? b=some o:=fun b hb=>let⟨o,ho,_⟩:=T.obj _ _ V2 b hb;⟨o,ho⟩;have fD:∀b∈fp,b≠s2.heap.objs.size:=fun b hb=>let⟨o,ho⟩:=fo b hb;UR b (JD ho);have VU:(cV X sc N' G2.objs.size cl s2 H2 fp).Ok:=qp I2 Vh e2 e3 f2 fo VR;have HD:H2 s2.heap.objs.size=none:=I2.hok.fresh (JB _);have HC:H2 G2.objs.size=none:=I2.hok.fresh VR;have I4:NO (cV X sc N' G2.objs.size cl s2 H2 fp) [] (eG ix σ) H2 {s2 with heap:=h₁,toks:=s2.toks+([]:List (Str×Uw)).length}:=by
  refine⟨VU,rfl,I2.bare,Un.kept UH,⟨_,Ve,fun j x v a b c=>?_⟩,fun x c q=>?_,HC,fun x c q=>I2.freeC x c (e2 x c q),fun p hp=>(by cases hp),I2.hok.kept UH,?_⟩
  ·
   have a':N'[j]?=some x:=a;have b':(ix.map fun o=>match o with|some i=>(σ[i]?).getD none|none=>none)[j]?=some (some v):=b;rw[J5]at b';cases q:ix[j]? with
   |none=>rw[q]at b';cases b'
   |some o=>
    rw[q]at b';cases o with
    |none=>cases b'
    |some i=>
     obtain⟨n1,n2⟩:=WR j i x q a';have VY:(σ[i]?).getD none=some v:=JS b';have sv:σ[i]?=some (some v):=by
      cases z:σ[i]? with
      |none=>rw[z]at VY;cases VY
      |some y=>rw[z]at VY;exact i_ some VY
     obtain⟨m,hn,hl⟩:=I2.loc;have kx:=UJ (x,.free) (cj n2) rfl;obtain⟨u,r,lk⟩:=hl i x v n1 sv (.inr kx);refine⟨u,r,.inr ⟨?_,?_⟩⟩
     ·show(compEnvC sc cl G2.objs.size X.env).kindOf x=some .cell\/(compEnvC sc cl G2.objs.size X.env).kindOf x=some .free;rw[eR,n2];show some (gD X.env x .free)=some .cell\/some (gD X.env x .free)=some .free;unfold gD;split
      ·exact .inl rfl
      ·exact .inr rfl
     ·obtain⟨c1,Xc⟩:=e3 (x,.free) (cj n2) rfl;refine⟨c1,Xc,?_⟩;have We:=e2 x c1 Xc;rcases lk with⟨z,_⟩|⟨_,c,V6,Yy⟩
      ·have z':X.env.scope.names.lookup x=some .local:=z;rcases kx with y|y<;>(rw[y]at z';cases z')
      ·rw[We]at V6;cases V6;obtain⟨o,ho,hd⟩:=Yy;exact⟨o,UH c1 o ho,hd⟩
  ·obtain⟨v,o,ho,hd⟩:=I2.cell x c (e2 x c q);exact⟨v,o,UH c o ho,hd⟩
  ·show(ix.map _).length=N'.length;rw[JC,K4]
 have Wp:∀x c,cl.lookup x=some c->c≠s2.heap.objs.size:=fun x c q z=>by
  obtain⟨v,o,ho,hd⟩:=I2.cell x c (e2 x c q);exact UR c (JD ho) z
 have loop:∀s₃:Uy,s₃={s2 with heap:=h₁,toks:=s2.toks+([]:List (Str×Uw)).length}->
   codeAny (model X.prog X.w) X.A (.compLoop (.ListComp S' [⟨tg,iter,[],0⟩,⟨t2,i2,L',0⟩] sc pos) 0 (.ref it) (.ref s2.heap.objs.size) (compEnvC sc cl G2.objs.size X.env))
    (compPost (model X.prog X.w) X.A X.xe use Qf (.ref s2.heap.objs.size) G2.objs.size) s₃:=by
  rintro s₃ rfl;refine SJ rfl (fun n s'=>∃i ys H' f' k,NO (cV X sc N' G2.objs.size cl s2 H2 fp) [] (eG ix σ) H' s'/\tn i s'.heap/\(∀b∈fp,H' b=none)/\H' s2.heap.objs.size=none /\
   NV ys f'/\s'.heap.get? s2.heap.objs.size=some {cls:=.type "list",data:=.seq f'.toArray k}/\W i n ys H') ?_ m0
   ⟨0,[],H2,[],_,I4,T.keep _ _ _ V2 (fun b _ o e=>UH b o e),fun b hb=>(f2 b hb).1,HD,.nil,Vv,w0⟩
  rintro n s5 ⟨i,ys,H5,f',k,I5,VG,V7,Vt,vv,oD,w5⟩;show wpAny _ X.A ((compTurn (.ListComp S' [⟨tg,iter,[],0⟩,⟨t2,i2,L',0⟩] sc pos) 0 (.ref it) (.ref s2.heap.objs.size) (compEnvC sc cl G2.objs.size X.env)).onRaise (fun x=>do noteFrame x (compEnvC sc cl G2.objs.size X.env);theTreesLotGoes x)) _ _ s5;refine wpAny_noted ?_;rw[x6];have Xf:NO (cV X sc N' G2.objs.size cl s2 H2 fp) [(s2.heap.objs.size,{cls:=.type "list",data:=.seq f'.toArray k})] (eG ix σ) H5 s5:=I5.pins_of fun p hp=>by
   have Vk:p=(s2.heap.objs.size,{cls:=.type "list",data:=.seq f'.toArray k}):=by simpa using hp
   subst Vk;refine⟨oD,Vt,WS,fun hb=>?_,fun v z=>(by cases z)⟩;obtain⟨_,o,ho,_⟩:=I2.stack.mem (show s2.heap.objs.size∈oH X.stack from hb);exact Kk _ (JD ho)
  have VN:∀{H':Hp},(∀b∈fp,H' b=none)->∀b∈fp,Of (cV X sc N' G2.objs.size cl s2 H2 fp) [(s2.heap.objs.size,({cls:=.type "list",data:=.seq f'.toArray k}:Obj))] H' b:=fun{H'}hn b hb=>by
   refine⟨hn b hb,(VU.exf b hb).1,VU.exfs b hb,.inl hb,(VU.exf b hb).2,fun p hp=>?_⟩;have Vk:p=(s2.heap.objs.size,({cls:=.type "list",data:=.seq f'.toArray k}:Obj)):=by
    have z:p∈([]:List (Ux×Obj))++[(s2.heap.objs.size,({cls:=.type "list",data:=.seq f'.toArray k}:Obj))]:=hp;simpa using z
   subst Vk;exact(fD b hb).symm
  rcases UU i n ys H5 w5 with⟨stop,hz,qn⟩|⟨go,step⟩
  ·refine a_ (o_ (a_ (h_ (T.done (cV X sc N' G2.objs.size cl s2 H2 fp) rfl rfl rfl hc i _ s5 (eG ix σ) H5 (fun _ _=>False) Xf (VN V7) VG stop) (fun r s6⟨hr,I6⟩=>?_) fun _ _ f=>f.elim)));subst hr;refine c_ ?_;obtain⟨m,hn,_⟩:=I6.loc;have Z5:s6.heap.get? s2.heap.objs.size=some {cls:=.type "list",data:=.seq f'.toArray k}:=(I6.pin (s2.heap.objs.size,{cls:=.type "list",data:=.seq f'.toArray k}) (by show _∈([]:List (Ux×Obj))++_;simp)).1;have u6:Un (oH X.stack) fp H2 H5 s2.heap s6.heap:=I6.base;have YJ:H5 G2.objs.size=none:=I6.free;refine VQ _ _ (az H5 s2.heap.objs.size (.lst ys)) s6 ⟨?_,⟨m,hn⟩,by rw[ao WS.symm];exact YJ,(J' _ I2.lt).symm,fun x c q=>?_,J4 I2.sz VR,fun p hp=>?_⟩ (qn _ Vt)
   ·refine I2.call' (s':=s6) (ch:=fp) I6.os ?_ ?_ I6.bare fun b hb=>⟨(f2 b hb).2.2.2.1,(f2 b hb).2.1,(f2 b hb).2.2.2.2.1,(f2 b hb).2.2.2.2.2⟩
    ·refine⟨fun b o e n nf nx=>u6.keep b o e n nf nx,fun b o e n nf nx=>u6.slot b o e n nf nx,fun b o e n nx=>?_,fun b o e nx=>u6.there b o e nx,fun b xs e=>?_,fun b o u e=>?_,fun b ps e=>?_⟩
     ·rw[ao (UR b (JD e))];exact u6.free b o e n nx
     ·rw[ao (aI e HD)];exact u6.tups b xs e
     ·rw[ao (aI e HD)];exact u6.frzs b o u e
     ·rw[ao (aI e HD)];exact u6.tbls b ps e
    ·intro b o e;by_cases hb:b=s2.heap.objs.size
     ·subst hb;rw[ac]at e;cases e;exact⟨hz,f',k,vv,Z5⟩
     ·rw[ao hb]at e;refine(I6.hok b o e).stay (fun c v V6 q=>q) (fun c q=>?_) fun c xs q=>?_
      ·rw[ao (aI q Vt)];exact q
      ·rw[ao (aI q Vt)];exact q
   ·obtain⟨v,o,ho,hd⟩:=I2.cell x c q;exact J' c (JD ho)
   ·exact J' p.1 (JD (I2.pin p hp).1)
  ·refine a_ (o_ (a_ (h_ (T.item (cV X sc N' G2.objs.size cl s2 H2 fp) rfl rfl rfl hc i _ s5 (eG ix σ) H5 (fun _ _=>False) Xf (VN V7) VG go) (fun r s6⟨u,hr,h6⟩=>?_) fun _ _ f=>f.elim)));subst hr;refine a_ (h_ h6 (fun _ s7 hZZ=>?_) fun _ _ f=>f.elim);obtain⟨x,H7,I7,r7,y7,VF,XB⟩:=hZZ;have XC:=I7.pinned (VN XB) (T.obj _ _ VF);refine a_ (h_ (hg _ _ _ _ _ _ s7 (eG ix σ) H7 x u _ XC r7 (step x H7 y7)) (fun _ s8 hZZ=>?_) fun _ _ f=>f.elim);obtain⟨σ8,H8,I8,x8,q8⟩:=hZZ;obtain⟨xl,xv⟩:=x8.spec;have UW:∀{σ9:St}{H9:Hp}{s9:Uy}{pl:List (Ux×Obj)},(∀p∈ck fp s7.heap,p∈pl)->NO (cV X sc N' G2.objs.size cl s2 H2 fp) pl σ9 H9 s9->tn (i+1) s9.heap/\∀b∈fp,H9 b=none:=fun{σ9 H9 s9 pl}hp I9=>by
    have pn:∀b o,b∈fp->s7.heap.get? b=some o->s9.heap.get? b=some o/\H9 b=none:=fun b o hb e=>by
     have:=I9.pin (b,o) (JE _ (hp _ (da hb e)));exact⟨this.1,this.2.1⟩
    refine⟨T.keep _ _ _ VF fun b hb o e=>(pn b o hb e).1,fun b hb=>?_⟩;obtain⟨o,e,_⟩:=T.obj _ _ VF b hb;exact(pn b o hb e).2
   refine a_ (h_ (Ys _ _ _ _ _ _ s8 σ8 H8 _ I8 q8) (fun zv s9 h9=>?_) fun _ _ f=>f.elim);refine a_ (o_ (a_ (wpAny_of_eq (Vq _ _ zv) (a_ (s_ (h_ h9 (fun jt X_ h10=>?_) fun _ _ f=>f.elim))))));obtain⟨it2,fp2,tn2,J2,H10,e10,I10,T2,YL,Zt,go2⟩:=h10;subst e10;have pD:=I10.pin (s2.heap.objs.size,{cls:=.type "list",data:=.seq f'.toArray k}) (JE _ (JZ _ (by simp)));have I10':NO (cV X sc N' G2.objs.size cl s2 H2 fp) (ck fp s7.heap) σ8 H10 X_:=I10.pins_of fun p hp=>I10.pin p (JE _ (JE _ hp));have nf:s2.heap.objs.size∉oH X.stack:=fun hb=>by
    obtain⟨_,o,ho,_⟩:=I2.stack.mem hb;exact Kk _ (JD ho)
   have f10':∀b∈fp2,Of (cV X sc N' G2.objs.size cl s2 H2 fp) (ck fp s7.heap) H10 b:=fun b hb=>(Zt b hb).less fun p hp=>JE _ hp;have f10D:∀b∈fp2,b≠s2.heap.objs.size:=fun b hb=>((Zt b hb).2.2.2.2.2 (s2.heap.objs.size,{cls:=.type "list",data:=.seq f'.toArray k}) (JE _ (JZ _ (by simp)))).symm;have dP:∀p∈([]:List (Ux×Obj))++ck fp s7.heap,p.1≠s2.heap.objs.size:=fun p hp=>fD p.1 (fT (by simpa using hp)).1;have inn:=F5 (X:=cV X sc N' G2.objs.size cl s2 H2 fp) (t1:=tg) (i1:=iter) (t2:=t2) (i2:=i2) (sc:=sc) (pos:=pos) hc rfl (Yt _ _ _ _ _) (hf _ _ _ _ _) (he _ _ _ _ _) I10' pD.1 pD.2.1 WS nf (JB _) (fun x c q=>Wp x c q) dP vv T2 YL f10' f10D go2;refine a_ (wpAny_runOwn (RX (x9 inn (T2.self _ 0 _ _ _ YL inn)) fun r sA hA=>?_));obtain⟨rfl,ysA,itsA,kA,HA,IA,Yb,Xy,vvA,m',hm,wA⟩:=hA;obtain⟨tA,frA⟩:=UW (fun p hp=>hp) IA;exact c_ ⟨rfl,m',hm,i+1,ysA,HA,itsA,kA,(IA.pins_of (pins':=[]) fun p hp=>nomatch hp).weak xl xv,tA,frA,Xy,vvA,Yb,wA⟩
 exact codeAny_compStart_list (loop _ rfl) (T.self X.A 0 _ _ _ (T.keep _ _ _ V2 (fun b _ o e=>UH b o e)) (loop _ rfl))
def rm(hc:X.calm=true)(Vh:jX N sc0 sc N' ix=true)(hi:PI X tg iter wi)
  (hg:∀C cl s H fp,PG (cV X sc N' C cl s H fp) tg g) (Ys:∀C cl s H fp,PI (cV X sc N' C cl s H fp) t2 i2 Vx) (Yt:∀C cl s H fp,PG (cV X sc N' C cl s H fp) t2 g2) (hf:∀C cl s H fp,PF (cV X sc N' C cl s H fp) L' tf) (he:∀C cl s H fp,PE (cV X sc N' C cl s H fp) S' te)
  (eN:X.N=N:=by rfl) (Vq:∀C cl x,foldedSetIterable i2 (compEnvC sc cl C X.env) x=pure x:=by intro _ _ _;rfl) (eS:X.env.scope=sc0:=by rfl) (hs:∀x,foldedSetIterable iter X.env x=pure x:=by intro _;rfl) :
  PE X (.ListComp S' [⟨tg,iter,[],0⟩,⟨t2,i2,L',0⟩] sc pos) (DC wi g Vx g2 tf te ix):=by
 refine⟨?_⟩;intro K3 s σ H Q I h;subst eN eS;rw[eval_ListComp];refine pI (use:=none) hc Vh hi hg Ys Yt hf he Vq hs I h fun C D H' s' L q=>?_;obtain⟨m,hn⟩:=L.ns;exact⟨m,hn,fun h' sb=>⟨.ref D,H',L.gone sb,rfl,q⟩⟩
def lN{i:Nat}{y:Str}{py WX:Pos}(hN:X.N.Nodup)(hiy:X.N[i]?=some y)(hy:X.env.scope.names.lookup y=some .local)(hc:X.calm=true)(Vh:jX N sc0 sc N' ix=true)(hi:PI X tg iter wi)
  (hg:∀C cl s H fp,PG (cV X sc N' C cl s H fp) tg g) (Ys:∀C cl s H fp,PI (cV X sc N' C cl s H fp) t2 i2 Vx) (Yt:∀C cl s H fp,PG (cV X sc N' C cl s H fp) t2 g2) (hf:∀C cl s H fp,PF (cV X sc N' C cl s H fp) L' tf) (he:∀C cl s H fp,PE (cV X sc N' C cl s H fp) S' te)
  (eN:X.N=N:=by rfl) (Vq:∀C cl x,foldedSetIterable i2 (compEnvC sc cl C X.env) x=pure x:=by intro _ _ _;rfl) (eS:X.env.scope=sc0:=by rfl) (hs:∀x,foldedSetIterable iter X.env x=pure x:=by intro _;rfl)
  (hsw:swapsWith (.ListComp S' [⟨tg,iter,[],0⟩,⟨t2,i2,L',0⟩] sc pos) (some (.Name y py)) WX.line X.env=pure true:=by rfl) :
  PS X (.Assign [.Name y py] (.ListComp S' [⟨tg,iter,[],0⟩,⟨t2,i2,L',0⟩] sc pos) WX) (ww i (DC wi g Vx g2 tf te ix)):=by
 refine⟨?_⟩;intro K3 s σ H Dn I h;subst eN eS;rw[exec_Assign_Name_used _ _ _ _ hsw];refine a_ (o_ (a_ ?_));show wpAny _ X.A (do let _ <-comprehension (.ListComp S' [⟨tg,iter,[],0⟩,⟨t2,i2,L',0⟩] sc pos) sc X.env _ (newList []) false (eval iter X.env) (some (assign (.Name y py) X.env))) _ _ s;refine a_ (h_ (pI (use:=some (assign (.Name y py) X.env)) (Qf:=fun _ s'=>SP X K3 Dn .next s') hc Vh hi hg Ys Yt hf he Vq hs I h fun C D H' s' L q=>?_) (fun _ s' hq=>c_ (c_ hq)) fun _ _ e=>e);show wpAny _ X.A (assign (.Name y py) X.env (.ref D)) _ _ s';refine SD (iz L.inv hN hiy (.inl hy) (v:=.ref D) rfl (fun s1 I1 Yk=>?_) (.inr hy));obtain⟨a,sb,ha⟩:=Yk;have Yz:C≠a:=by
  rcases ha with z|z
  ·rw[z];exact L.loc
  ·exact(L.cel y a z).symm
 obtain⟨m,hn⟩:=L.ns;have L1:OU X K3 (σ.set i (some (.ref D))) H' s1 C:=⟨I1,⟨m,hn.sameBut sb Yz⟩,L.free,L.loc,L.cel,L.abv,L.pin⟩;exact⟨m,hn.sameBut sb Yz,fun h' ZS=>⟨_,H',L1.gone ZS,q⟩⟩
end
def jm:bootBuiltins "range"=some (.type "range"):=by decide +kernel
def eK(ns:UE):UG:=ns.map fun(k:Nat)=>V.int (k:Int)
section
variable{X:Cx}
def pJ:cH X (.type "range") (fun xs H Q=>∃n:Nat,xs=[.int n]/\∀p,H p=none->Q (.ref p) (az H p (.rng 0 n))):=by
 intro K3 s σ H xs us Q I r h;obtain⟨n,rfl,q⟩:=h;obtain⟨u,rfl,t,rfl⟩:=dB r;refine call_range_1 ⟨.ref _,_,I.laid (fun b u e=>Jz _ e) (JB _) ?_,rfl,q _ I.fresh⟩;exact⟨_,_,_,JG _ rfl⟩
def vh:∀(n:Nat)(G':Array Uw),ItemsOf (fun i v=>∃t,v=Value.int (0+(i:Int)*1) t) G' n->NV (eK (List.range n)) G'.toList:=by
 intro n G' h;obtain⟨h1,h2⟩:=h;have key:∀(l:List Uw)(k:Nat),(∀i v,l[i]?=some v->∃t,v=Value.int ((k+i:Nat):Int) t)->NV (eK (List.range' k l.length)) l:=by
  intro l;induction l with
  |nil=>intro k _;exact .nil
  |cons x l ih=>
   intro k hk;have:=hk 0 x (by simp);refine .cons (show NY (V.int ((k:Nat):Int)) x from by obtain⟨t,rfl⟩:=this;exact⟨t,by simp⟩) ?_;exact ih (k+1) fun i v e=>by
    obtain⟨t,rfl⟩:=hk (i+1) v (by simpa using e);exact⟨t,by congr 2;lia⟩
 have e:=key G'.toList 0 fun i v e=>by
  obtain⟨hi,e'⟩:=JA.mp e;have Xa:i<G'.size:=by simpa using hi
  have:=h2 i v (by rw[<-R8];exact e);obtain⟨t,ht⟩:=this;exact⟨t,by rw[ht];congr 1;lia⟩
 rw[Kt,h1]at e;rw[List.range_eq_range'];exact e
def gw(hc:X.calm=true):cH X (.type "list") (fun xs H Q=>∃(p:Ux)(n:Nat),xs=[.ref p]/\H p=some (.rng 0 n)/\n<=100000/\∀l,H l=none->Q (.ref l) (az H l (.lst (eK (List.range n))))):=by
 intro K3 s σ H xs us Q I r h;obtain⟨p,n,rfl,hp,hn,q⟩:=h;obtain⟨u,rfl,rx⟩:=dB r;cases rx;obtain⟨t,u,v,e⟩:=I.hok p _ hp;have sz:(100000:Nat)<=sizeLine:=by decide
 refine call_list_range (I.ok.hd hc) e (small_one zo zo zo zo) (n:=n) (by rw[rangeSize_one];split<;>lia) zo fun h' tk G' c k o it=>?_;have vv:=vh n G' it;have hl:(eK (List.range n)).length=n:=by simp[eK]
 refine⟨.ref _,_,I.laid k (JB _) ?_,rfl,q _ I.fresh⟩;exact⟨by rw[hl];lia,G'.toList,c,vv,by simpa using o⟩
end
end
section
def lO:entryFor table "dict.update.loop"=some Builtin.«dict.update.loop»:=entryFor_of_tree (by kernel_rfl)
def eL:plainId "dict.update.loop"=true:=by decide +kernel
def rn:typeLookup (.type "tuple") "keys"=pure none:=by rw[typeLookup_type,builtinLookup_eq_fast];kernel_rfl
def vi:typeLookup (.type "list") "keys"=pure none:=by rw[typeLookup_type,builtinLookup_eq_fast];kernel_rfl
def nj{prog:Uz}{w:UA}{A:UB}{E:Uw->Uy->Prop}{s:Uy}{a:Ux}{o:Obj}{xs:Array Uw}{k:Nat}{Q:Option Uw->Uy->Prop}
  (hx:s.heap.get? a=some o) (hc:o.cls=.type "tuple") (UQ:o.data=.seq xs k) (hd:o.dict=none) (hA:A.handled=none)
  (h:∀h' tk,(∀b ob,s.heap.get? b=some ob->h'.get? b=some ob)->Q none {s with heap:=h',toks:=tk}) :
  wpAny (model prog w) A (getAttr? (.ref a) "keys") Q E s:=by
 obtain⟨c,dct,dat,sl⟩:=o;simp only at hc UQ hd;subst hc UQ hd;obtain⟨hp,g,d,tk,os⟩:=s;have hT:∀W8,(⟨hp,g,d,W8,os⟩:Uy).TypeIs (.ref a) "tuple":=fun _=>⟨_,hx,rfl⟩;have f1:=sub_AttributeError;have f3:=F.slot_tuple_getattribute.lookup;have f4:=F.slot_tuple_getattribute.bind (.ref a);have f5:=am_tuple_getattr_none;unfold getAttr? getAttrBy? getAttrBy;repeat (any_goals (first|assumption|exact hT _|((with_reducible show wpAny _ _ (call (Value.builtin "tuple.__getattribute__") _ _) _ _ _);refine R3 F.slot_tuple_getattribute (hT _) am_entry_tuple_getattribute (F.args_tuple_getattribute_2 _ _) (meets_getattribute_miss_tuple a xs k sl "keys" _ rn zk) ⟨hx,hA,fun h' W8 e Vl=>?_⟩)|wp_step))
 obtain⟨t',u',he⟩:=Vl.there;show wpAny _ _ (getattributeRaised _ _ _ _ _ _ _) _ _ _;unfold getattributeRaised;repeat (any_goals (first|assumption|wp_step))
 exact h _ _ Vl.keeps
def pK{prog:Uz}{w:UA}{A:UB}{E:Uw->Uy->Prop}{s:Uy}{a:Ux}{o:Obj}{xs:Array Uw}{k:Nat}{Q:Option Uw->Uy->Prop}
  (hx:s.heap.get? a=some o) (hc:o.cls=.type "list") (UQ:o.data=.seq xs k) (hd:o.dict=none) (hA:A.handled=none)
  (h:∀h' tk,(∀b ob,s.heap.get? b=some ob->h'.get? b=some ob)->Q none {s with heap:=h',toks:=tk}) :
  wpAny (model prog w) A (getAttr? (.ref a) "keys") Q E s:=by
 obtain⟨c,dct,dat,sl⟩:=o;simp only at hc UQ hd;subst hc UQ hd;obtain⟨hp,g,d,tk,os⟩:=s;have hT:∀W8,(⟨hp,g,d,W8,os⟩:Uy).TypeIs (.ref a) "list":=fun _=>⟨_,hx,rfl⟩;have f1:=sub_AttributeError;have f3:=F.slot_list_getattribute.lookup;have f4:=F.slot_list_getattribute.bind (.ref a);have f5:=am_list_getattr_none;unfold getAttr? getAttrBy? getAttrBy;repeat (any_goals (first|assumption|exact hT _|((with_reducible show wpAny _ _ (call (Value.builtin "list.__getattribute__") _ _) _ _ _);refine R3 F.slot_list_getattribute (hT _) am_entry_list_getattribute (F.args_list_getattribute_2 _ _) (meets_getattribute_miss_list a xs k sl "keys" _ vi zk) ⟨hx,hA,fun h' W8 e Vl=>?_⟩)|wp_step))
 obtain⟨t',u',he⟩:=Vl.there;show wpAny _ _ (getattributeRaised _ _ _ _ _ _ _) _ _ _;unfold getattributeRaised;repeat (any_goals (first|assumption|wp_step))
 exact h _ _ Vl.keeps
end
section
variable{X:Cx}{K3:List (Ux×Obj)}{σ:St}{H:Hp}{s:Uy}{a:Ux}{y v:V}{u r:Uw}{A:UB}{E:Uw->Uy->Prop}
def lP{H':Hp}{Q:Unit->Uy->Prop}(hu:A.units<cLine)(I:NO X K3 σ H s)(g:Oh H a y v H')(ry:NY y u)(rv:NY v r)(h:∀h' t',Heap.SameBut a s.heap h'->NO X K3 σ H' {s with heap:=h',toks:=t'}->Q () {s with heap:=h',toks:=t'}):
  wpAny (model X.prog X.w) A (dictSet a u r) Q E s:=by
 rcases g with⟨kvs,k,e,ey,l,eH⟩|⟨kvs,k,b,e,ey,eb,l,eH⟩
 ·subst ey eH;obtain⟨z,hd,vs,rel,dd⟩:=wG I.hok e;have hz:vs.length<=sizeLine:=by rw[<-rel.length];exact z
  have hl:(er kvs k v).length<=sizeLine:=by have:=dj kvs k v;lia
  refine wpAny_dictSet_pairs (hsz:=hz) (ji ry) dd fun h' WV hs=>h _ _ hs ?_;have he:∃q,h'.get? a=some q:=let⟨q,_,_,hq,_⟩:=WV;⟨q,hq⟩;exact jx I (by rw[e];exact True.intro) hs he (qv hl hd (rel.put k rv) WV)
 ·subst ey eH;cases(show u=Value.ref b from ry);obtain⟨z,hd,xs,rel,dd⟩:=Bw I.hok e;have hz:xs.length<=sizeLine:=by rw[<-Sa rel];exact z
  have hl:(er kvs k v).length<=sizeLine:=by have:=dj kvs k v;lia
  refine wpAny_dictSet_heap (hsz:=hz) (show(tupleKind (bU X.prog X.w)).room A from hu) (fC I.hok eb) dd fun h' WV hs=>h _ _ hs ?_;obtain⟨q,es,ep,hq,h2,h3,h4,_,h5⟩:=WV;refine jx I (by rw[e];exact True.intro) hs ⟨q,hq⟩ ⟨hl,hd,_,(rel.put k eb rv).keeps fun c ys ec=>?_,q,es,ep,hq,h2,h3,h4,h5⟩;rw[ao (Ba ec e (fun z=>nomatch z))];exact ec
end
def cM{α β:Type}{R:α->β->Prop}:∀{xs:List α}{ys:List β}{i:Nat}{x:α},Paired R xs ys->xs[i]?=some x->∃y,ys[i]?=some y/\R x y
 |_,_,0,_,.cons h _,e=>by cases e;exact⟨_,rfl,h⟩
 |_,_,i+1,_,.cons _ t,e=>cM (i:=i) t e
inductive gP(d:Ux):Hp->UG->Hp->Prop
 |nil {H}:gP d H [] H
 |cons {H H1 H2 p k v ps}:H p=some (.tup [k,v])->Oh H d k v H1->gP d H1 ps H2->gP d H (.ref p::ps) H2
section
variable{H H':Hp}
def Oh.other{d b:Ux}{y v:V}(g:Oh H d y v H')(h:b≠d):H' b=H b:=by
 rcases g with⟨kvs,k,e,ey,l,eH⟩|⟨kvs,k,c,e,ey,eb,l,eH⟩<;>rw[eH,ao h]
structure F6(X:Cx)(K3:List (Ux×Obj))(it:Ux):Prop where
 loc:it≠X.env.locals
 big:X.s₀.heap.objs.size<=it
 cel:∀x c,X.env.cells.lookup x=some c->c≠it
 pin:∀p∈X.pn++K3,p.1≠it
def NO.late{X:Cx}{K3:List (Ux×Obj)}{σ:St}{s:Uy}{it:Ux}(I:NO X K3 σ H s)(h:s.heap.objs.size<=it):F6 X K3 it where
 loc:=KC (JW I.lt h)
 big:=J4 I.sz h
 cel:=fun x c q z=>by
  obtain⟨v,o,ho,_⟩:=I.cell x c q;exact absurd (JD ho) (by rw[z];exact Nat.not_lt.mpr h)
 pin:=fun p hp z=>absurd (JD (I.pin p hp).1) (by rw[z];exact Nat.not_lt.mpr h)
section
variable{X:Cx}{K3:List (Ux×Obj)}{σ:St}{A:UB}{R:Result->Uy->Prop}{it d:Ux}{fp:List Ux}{Lf:List Uw}{xs:UG}{H2:Hp}{res:Uw}{St:Nat->Heap->Prop}
def pL(hu:A.units+1<cLine)(W:Walks X.prog X.w A.in1 it fp [it] Lf.length (fun i v=>Lf.toArray[i]?=some v) St)(hd:d∉fp)(La:it≠d)(lt:F6 X K3 it)(vv:NV xs Lf)(hR:∀s',NO X K3 σ H2 s'->R (.ok (.ret res)) s'):
  ∀(k i:Nat)(s:Uy)(H:Hp)(tk:Tok),Lf.length-i=k->i<=Lf.length->St i s.heap->NO X K3 σ H s->H it=none->gP d H (xs.drop i) H2->
   codeAny (model X.prog X.w) A (.builtin "dict.update.loop" ⟨[.ref d,.ref it,.int (i:Int) tk,res],[]⟩) R s:=by
 intro k;induction k with
 |zero=>
  intro i s H tk hk hi Wb I hn hP;have hin:i=Lf.length:=by lia
  subst hin;rw[List.drop_of_length_le (by rw[vv.length];exact JB _)]at hP;cases hP;refine Si lO ?_;rw[Q_ eL _];show wpAny _ A.in1 (pyNext (.ref it)>>=_) _ _ s;refine a_ (W.done s _ _ Wb fun h' tk Yp=>?_);show wpAny _ _ (Builtin.Dict.addKeywords d []>>=_) _ _ _;exact a_ (c_ (c_ (hR _ (I.turned (fun b o hb e=>Yp b o (by simpa using hb) e) hn lt.loc (.inr lt.big) lt.cel lt.pin))))
 |succ k ih=>
  intro i s H tk hk hi Wb I hn hP;have Ld:i<Lf.length:=by lia
  have hlx:i<xs.length:=by rw[vv.length];exact Ld
  rw[Ka hlx]at hP;generalize hx:xs[i]=x at hP;cases hP with
  |@cons _ H1 _ p kk v _ hp VO hrest=>
  refine Si lO ?_;rw[Q_ eL _];show wpAny _ A.in1 (pyNext (.ref it)>>=_) _ _ s;refine a_ (W.item i s _ _ Ld Wb fun w' h' W8 hw Vz keep=>?_);have I1:NO X K3 σ H {s with heap:=h',toks:=W8}:=I.turned (fun b o hb e=>keep b o (by simpa using hb) e) hn lt.loc (.inr lt.big) lt.cel lt.pin;have hw':Lf[i]?=some w':=by simpa using hw
  have Vp:NY (.ref p) w':=by
   have:=cM vv (i:=i) (x:=.ref p) (by rw[Kd hlx,hx]);obtain⟨u,eu,ru⟩:=this;rw[hw']at eu;cases eu;exact ru
  cases Vp;obtain⟨_,f',rv,o,ho,U8,n,UQ⟩:=(show N2 X.prog X.w H h' p (.tup [kk,v])from I1.hok p _ hp);obtain⟨uk,r1,e1,rk⟩:∃uk r1,f'=uk::r1/\NY kk uk/\NV [v] r1:=by
   cases rv with
   |cons a b=>exact⟨_,_,rfl,a,b⟩
  obtain⟨rk,VA⟩:=rk;obtain⟨uv,rfl,rvv⟩:=dB VA;subst e1;have hT:Shared.TypeIs {s with heap:=h',toks:=W8} (.ref p) "tuple":=⟨o,ho,(KF U8).1⟩;refine a_ (s_ (a_ (wpAny_tryCatch ?_)));unfold Builtin.Dict.pairItems;refine a_ (Sg hT ?_);rw[g_ zd];refine a_ (A_ ho UQ (c_ ?_));show wpAny _ _ (holding [uk,uv] (dictSet d uk uv)) _ _ _;refine s_ (lP hu I1 VO rk rvv fun h2 t2 sb I2=>?_);refine c_ ⟨Su eL _,?_⟩;refine ih (i+1) _ H1 _ zo Ld (W.frame _ _ _ Vz fun b hb o e=>(sb.2 b (fun z=>hd (z▸hb))).trans e) I2 (by rw[VO.other La];exact hn) hrest
end
section
variable{X:Cx}
inductive ya(xs:UG)(H:Hp)(Q:VK):Prop
 |mk(b:Bool)(a:Ux)(ps:UG):xs=[.ref a]->H a=some (if b then .tup ps else .lst ps)->(∀d,H d=none->∃e H2,(e=.dK []\/e=.dT [])/\gP d (az H d e) ps H2/\Q (.ref d) H2)->ya xs H Q
def eY{k:Nat}(hr:NZ k X.A):cH X (.type "dict") ya:=by
 intro K3 s σ H xs us Q I r h;obtain⟨b,a,ps,rfl,ha,q⟩:=h;obtain⟨u,rfl,rx⟩:=dB r;cases rx;have hun:=hr.un;refine callType_codes (Q₁:=fun obj s₁=>obj=.ref s.heap.objs.size/\s₁={s with heap:=s.heap.push {cls:=.type "dict",data:=.dict #[]} }) F.kt_called_dict (F.kt_typeCall_dict_1 _) F.entry_dict_init (kt_code_dict_new _ ⟨rfl,rfl⟩) ?_;rintro obj s₁ ⟨rfl,rfl⟩;have hT:Shared.TypeIs {s with heap:=s.heap.push {cls:=.type "dict",data:=.dict #[]} } (.ref s.heap.objs.size) "dict":=⟨_,JG _ rfl,rfl⟩;refine⟨hT,F.args_dict_init_2 _ _,?_⟩;obtain⟨e,H2,he,VO,hq⟩:=q _ (I.hok.fresh (JB _));have I1:NO X K3 σ (az H s.heap.objs.size e) {s with heap:=s.heap.push {cls:=.type "dict",data:=.dict #[]},toks:=s.toks}:=by
  refine I.laid (fun _ _ q=>Jz _ q) (JB _) ?_;rcases he with rfl|rfl
  ·exact oZ s.heap I.big
  ·exact o0 s.heap I.big
 have hda:a≠s.heap.objs.size:=fun z=>by rw[z,I.hok.fresh (JB _)]at ha;cases ha
 have ha1:(az H s.heap.objs.size e) a=some (if b then .tup ps else .lst ps):=by rw[ao hda];exact ha
 unfold Builtin.«dict.__init__»;refine a_ ?_;unfold Builtin.Dict.selfAndRest;refine a_ (wpAny_notOrdered_dict hT ?_);show wpAny _ _ (pure (s.heap.objs.size,[Value.ref a])) _ _ _;refine c_ ?_;show wpAny _ _ (Builtin.Dict.updateFrom "dict.__init__" s.heap.objs.size (.ref a) [] .none) _ _ _;unfold Builtin.Dict.updateFrom;generalize s.heap.push {cls:=.type "dict",data:=.dict #[]}=h1 at*;cases b with
 |true=>
  obtain⟨_,f',rv,o,ho,U8,n,UQ⟩:=(show N2 X.prog X.w _ h1 a (.tup ps)from I1.hok a _ ha1);have YA:Shared.TypeIs {s with heap:=h1} (.ref a) "tuple":=⟨o,ho,(KF U8).1⟩;refine a_ (Sg YA ?_);rw[g_ zd];refine a_ (nj ho (KF U8).1 UQ (KF U8).2 hr.hd fun h2 ZM keep=>?_);rw[g_ (show(none:Option Uw).isNone=true from rfl)];refine a_ (R1 (a_ ?_));have WK:h2.IsTuple a f'.toArray:=⟨o,keep _ _ ho,(KF U8).1,n,UQ⟩;refine J_ WK ?_;have I2:NO X K3 σ (az H s.heap.objs.size e) {s with heap:=h2,toks:=ZM}:=I1.kept keep;have WQ:h2.objs.size≠s.heap.objs.size:=KC (I2.hok _ _ (ac (H:=H) (a:=s.heap.objs.size) (o:=e))).lt;have Ld:a<h2.objs.size:=JD (keep _ _ ho);refine c_ ⟨Su eL _,?_⟩;refine pL (H2:=H2) (xs:=ps) (by show X.A.units+1+1<cLine;lia) (Walks.tuple (prog:=X.prog) (w:=X.w) (A:=X.A.in1.in1) hr.hd h2.objs.size a (JO Ld) f'.toArray) ?_ ?_ (I2.late (JB _)) rv (fun s' I'=>⟨rfl,.ref s.heap.objs.size,H2,I',rfl,hq⟩) _ 0 _ (az H s.heap.objs.size e) _ rfl (JN _) ⟨⟨_,JG _ rfl,rfl,rfl⟩,WK.at fun o e=>Jz _ e⟩ (I2.kept fun _ _ q=>Jz _ q) (I2.hok.fresh (JB _)) VO
  ·rintro hm;rcases JT.mp hm with z|z
   ·exact WQ z.symm
   ·exact hda (JL.mp z).symm
  ·exact WQ
 |false=>
  obtain⟨_,f',n,rv,ho⟩:=(show N2 X.prog X.w _ h1 a (.lst ps)from I1.hok a _ ha1);have YA:Shared.TypeIs {s with heap:=h1} (.ref a) "list":=⟨_,ho,rfl⟩;refine a_ (Sg YA ?_);rw[g_ zd];refine a_ (pK ho rfl rfl rfl hr.hd fun h2 ZM keep=>?_);rw[g_ (show(none:Option Uw).isNone=true from rfl)];refine a_ (R1 (a_ ?_));have WK:h2.IsList a f'.toArray:=⟨_,keep _ _ ho,rfl,n,rfl⟩;refine R4 WK ?_;have I2:NO X K3 σ (az H s.heap.objs.size e) {s with heap:=h2,toks:=ZM}:=I1.kept keep;have WQ:h2.objs.size≠s.heap.objs.size:=KC (I2.hok _ _ (ac (H:=H) (a:=s.heap.objs.size) (o:=e))).lt;have Ld:a<h2.objs.size:=JD (keep _ _ ho);refine c_ ⟨Su eL _,?_⟩;refine pL (H2:=H2) (xs:=ps) (by show X.A.units+1+1<cLine;lia) (Walks.list (prog:=X.prog) (w:=X.w) (A:=X.A.in1.in1) hr.hd h2.objs.size a (JO Ld) f'.toArray) ?_ ?_ (I2.late (JB _)) rv (fun s' I'=>⟨rfl,.ref s.heap.objs.size,H2,I',rfl,hq⟩) _ 0 _ (az H s.heap.objs.size e) _ rfl (JN _) ⟨⟨_,JG _ rfl,rfl,rfl⟩,WK.at fun o e=>Jz _ e⟩ (I2.kept fun _ _ q=>Jz _ q) (I2.hok.fresh (JB _)) VO
  ·rintro hm;rcases JT.mp hm with z|z
   ·exact WQ z.symm
   ·exact hda (JL.mp z).symm
  ·exact WQ
end
end
def F7(J:It)(g:TG)(tk tv:TE)(ix:List (Option Nat))(σ:St)(H1:Hp)(Q:VK):Prop:=∀D,H1 D=none->∃W:Nat->Nat->Hp->Prop,(∃m,W 0 m (az H1 D (.dT [])))/\∀i m H,W i m H->
 (J.stop i H/\Q (.ref D) H) ∨
 (J.go i H/\∀x H',J.yld i H x H'->g x (eG ix σ) H' fun σ2 H2=>Ob (eG ix σ) σ2/\tk σ2 H2 fun y H3=>tv σ2 H3 fun v H4=>∃H5,Oh H4 D y v H5/\∃m',m'<m/\W (i+1) m' H5)
def Jc(wi:TI)(g:TG)(tk tv:TE)(ix:List (Option Nat)):TE:=fun σ H Q=>wi σ H fun J H1=>F7 J g tk tv ix σ H1 Q
section
variable{X:Cx}{N':UD}{sc:Scope}{ix:List (Option Nat)}{tg iter kx vx:Expr}{wi:TI}{g:TG}{tk tv:TE}{K3:List (Ux×Obj)}{σ:St}{H:Hp}{s:Uy}{Q:VK}{pos B':Pos}
def Ay{Qf:Uw->Uy->Prop}(hu:X.A.units<cLine)(hc:X.calm=true)(Vh:jX X.N X.env.scope sc N' ix=true)(hi:PI X tg iter wi)
  (hg:∀C cl s H fp,PG (cV X sc N' C cl s H fp) tg g) (Yp:∀C cl s H fp,PE (cV X sc N' C cl s H fp) kx tk) (W_:∀C cl s H fp,PE (cV X sc N' C cl s H fp) vx tv)
  (hs:∀x,foldedSetIterable iter X.env x=pure x) (I:NO X K3 σ H s) (h:Jc wi g tk tv ix σ H Q)
  (VQ:∀(C D:Ux)(H':Hp)(s':Uy),OU X K3 σ H' s' C->Q (.ref D) H'->compPost (model X.prog X.w) X.A X.xe none Qf (.ref D) C (.ok .next) s') :
  wpAny (model X.prog X.w) X.A (comprehension (.DictComp kx vx [⟨tg,iter,[],0⟩] sc pos) sc X.env B' newDict false (eval iter X.env)) Qf X.xe s:=by
 obtain⟨hk,K4,UO,UJ,Va,WR⟩:=fU Vh;obtain⟨cl,e1,e2,e3⟩:=gC (env:=X.env) (sc:=sc) (fun x hx hf=>I.ok.has x.1 (UJ x hx hf));refine R6 (use:=none) (cl:=cl) rfl hs e1 hk Va (bN (hi K3 s σ H _ I h) fun v s1 h1=>bN h1 fun XR s0 h2=>?_);obtain⟨it,fp,tn,J,H0,e,I0,T,YM,f0,hgo⟩:=h2;subst e;refine l_ (Sm UO (by intro y hy;simp at hy) (fun h₁ Ve U6=>?_) hk);dsimp only at Ve U6⊢;have I2:NO X K3 σ (az H0 s0.heap.objs.size (.dT [])) {s0 with heap:=s0.heap.push {cls:=.type "dict",data:=.dict #[]},toks:=s0.toks}:=I0.laid (fun _ _ q=>Jz _ q) (JB _) (o0 s0.heap I0.big);have HD0:H0 s0.heap.objs.size=none:=I0.hok.fresh (JB _);obtain⟨W,⟨m0,w0⟩,UU⟩:=hgo _ HD0;have fo0:∀b∈fp,∃o,s0.heap.get? b=some o:=fun b hb=>let⟨o,ho,_⟩:=T.obj _ _ YM b hb;⟨o,ho⟩;have fD:∀b∈fp,b≠s0.heap.objs.size:=fun b hb=>let⟨o,ho⟩:=fo0 b hb;JO (JD ho);have f2:∀b∈fp,Of X K3 (az H0 s0.heap.objs.size (.dT [])) b:=fun b hb=>⟨by rw[ao (fD b hb)];exact(f0 b hb).1,(f0 b hb).2⟩;have V2:tn 0 (s0.heap.push {cls:=.type "dict",data:=.dict #[]}):=T.keep _ _ _ YM (fun b _ o e=>Jz _ e);have hDsz:s0.heap.objs.size<(s0.heap.push {cls:=.type "dict",data:=.dict #[]}).objs.size:=by rw[Kl];exact Kv _
 generalize hD:s0.heap.objs.size=D at*;generalize hs2h:s0.heap.push {cls:=.type "dict",data:=.dict #[]}=G2 at*;generalize hH2:az H0 D (.dT [])=H2 at*;generalize Vq:({s0 with heap:=G2,toks:=s0.toks}:Uy)=s2 at I2;have W':s2.heap=G2:=by rw[<-Vq]
 have J':∀b,b<G2.objs.size->b≠G2.objs.size:=fun b hb=>JO hb;have UH:∀b o,G2.get? b=some o->h₁.get? b=some o:=fun b o e=>U6.extBut b o (J' b (JD e)) (Jz _ e);have WY:∀b o,s2.heap.get? b=some o->h₁.get? b=some o:=fun b o e=>UH b o (W'▸e);have fo:∀b∈fp,∃o,s2.heap.get? b=some o:=fun b hb=>by
  obtain⟨o,ho,_⟩:=T.obj _ _ V2 b hb;exact⟨o,by rw[W'];exact ho⟩
 have VU:(cV X sc N' G2.objs.size cl s2 H2 fp).Ok:=qp I2 Vh e2 e3 f2 fo (by rw[W'];exact JB _);have HC:H2 G2.objs.size=none:=I2.hok.fresh (by rw[W'];exact JB _);have I4:NO (cV X sc N' G2.objs.size cl s2 H2 fp) [] (eG ix σ) H2 {s2 with heap:=h₁,toks:=s2.toks+([]:List (Str×Uw)).length}:=by
  refine⟨VU,rfl,I2.bare,Un.kept WY,⟨_,Ve,fun j x v a b c=>?_⟩,fun x c q=>?_,HC,fun x c q=>I2.freeC x c (e2 x c q),fun p hp=>(by cases hp),I2.hok.kept WY,?_⟩
  ·have a':N'[j]?=some x:=a;have b':(ix.map fun o=>match o with|some i=>(σ[i]?).getD none|none=>none)[j]?=some (some v):=b;rw[J5]at b';cases q:ix[j]? with
   |none=>rw[q]at b';cases b'
   |some o=>
    rw[q]at b';cases o with
    |none=>cases b'
    |some i=>
     obtain⟨n1,n2⟩:=WR j i x q a';have VY:(σ[i]?).getD none=some v:=JS b';have sv:σ[i]?=some (some v):=by
      cases z:σ[i]? with
      |none=>rw[z]at VY;cases VY
      |some y=>rw[z]at VY;exact i_ some VY
     obtain⟨m,hn,hl⟩:=I2.loc;have kx:=UJ (x,.free) (cj n2) rfl;obtain⟨u,r,lk⟩:=hl i x v n1 sv (.inr kx);refine⟨u,r,.inr ⟨?_,?_⟩⟩
     ·show(compEnvC sc cl G2.objs.size X.env).kindOf x=some .cell\/(compEnvC sc cl G2.objs.size X.env).kindOf x=some .free;rw[eR,n2];show some (gD X.env x .free)=some .cell\/some (gD X.env x .free)=some .free;unfold gD;split
      ·exact .inl rfl
      ·exact .inr rfl
     ·obtain⟨c1,Xc⟩:=e3 (x,.free) (cj n2) rfl;refine⟨c1,Xc,?_⟩;have We:=e2 x c1 Xc;rcases lk with⟨z,_⟩|⟨_,c,V6,Yy⟩
      ·have z':X.env.scope.names.lookup x=some .local:=z;rcases kx with y|y<;>(rw[y]at z';cases z')
      ·rw[We]at V6;cases V6;obtain⟨o,ho,hd⟩:=Yy;exact⟨o,WY c1 o ho,hd⟩
  ·obtain⟨v,o,ho,hd⟩:=I2.cell x c (e2 x c q);exact⟨v,o,WY c o ho,hd⟩
  ·show(ix.map _).length=N'.length;rw[JC,K4]
 have loop:∀s₃:Uy,s₃={s2 with heap:=h₁,toks:=s2.toks+([]:List (Str×Uw)).length}->
   codeAny (model X.prog X.w) X.A (.compLoop (.DictComp kx vx [⟨tg,iter,[],0⟩] sc pos) 0 (.ref it) (.ref D) (compEnvC sc cl G2.objs.size X.env))
    (compPost (model X.prog X.w) X.A X.xe none Qf (.ref D) G2.objs.size) s₃:=by
  rintro s₃ rfl;refine SJ rfl (fun n s'=>∃i H',NO (cV X sc N' G2.objs.size cl s2 H2 fp) [] (eG ix σ) H' s'/\tn i s'.heap/\(∀b∈fp,H' b=none)/\W i n H') ?_ m0
   ⟨0,H2,I4,T.keep _ _ _ V2 (fun b _ o e=>UH b o e),fun b hb=>(f2 b hb).1,w0⟩
  rintro n s5 ⟨i,H5,I5,VG,V7,w5⟩;show wpAny _ X.A ((compTurn (.DictComp kx vx [⟨tg,iter,[],0⟩] sc pos) 0 (.ref it) (.ref D) (compEnvC sc cl G2.objs.size X.env)).onRaise (fun x=>do noteFrame x (compEnvC sc cl G2.objs.size X.env);theTreesLotGoes x)) _ _ s5;refine wpAny_noted ?_;rw[compTurn_dict];have VN:∀{H':Hp},(∀b∈fp,H' b=none)->∀b∈fp,Of (cV X sc N' G2.objs.size cl s2 H2 fp) [] H' b:=fun{H'}hn b hb=>by
   refine⟨hn b hb,(VU.exf b hb).1,VU.exfs b hb,.inl hb,(VU.exf b hb).2,fun p hp=>?_⟩;have z:p∈([]:List (Ux×Obj))++[]:=hp;cases z
  rcases UU i n H5 w5 with⟨stop,qn⟩|⟨go,step⟩
  ·refine a_ (o_ (a_ (h_ (T.done (cV X sc N' G2.objs.size cl s2 H2 fp) rfl rfl rfl hc i _ s5 (eG ix σ) H5 (fun _ _=>False) I5 (VN V7) VG stop) (fun r s6⟨hr,I6⟩=>?_) fun _ _ f=>f.elim)));subst hr;refine c_ ?_;obtain⟨m,hn,_⟩:=I6.loc;have u6:Un (oH X.stack) fp H2 H5 s2.heap s6.heap:=I6.base;have YJ:H5 G2.objs.size=none:=I6.free;refine VQ _ _ H5 s6 ⟨?_,⟨m,hn⟩,YJ,(J' _ (by have:=I2.lt;rw[W']at this;exact this)).symm,fun x c q=>?_,by have:=I2.sz;rw[W']at this;exact this,fun p hp=>?_⟩ qn
   ·refine I2.call' (s':=s6) (ch:=fp) I6.os u6 I6.hok I6.bare fun b hb=>⟨(f2 b hb).2.2.2.1,(f2 b hb).2.1,(f2 b hb).2.2.2.2.1,(f2 b hb).2.2.2.2.2⟩
   ·obtain⟨v,o,ho,hd⟩:=I2.cell x c q;rw[W']at ho;exact J' c (JD ho)
   ·have:=(I2.pin p hp).1;rw[W']at this;exact J' p.1 (JD this)
  ·refine a_ (o_ (a_ (h_ (T.item (cV X sc N' G2.objs.size cl s2 H2 fp) rfl rfl rfl hc i _ s5 (eG ix σ) H5 (fun _ _=>False) I5 (VN V7) VG go) (fun r s6⟨u,hr,h6⟩=>?_) fun _ _ f=>f.elim)));subst hr;refine a_ (h_ h6 (fun _ s7 hZZ=>?_) fun _ _ f=>f.elim);obtain⟨x,H7,I7,r7,y7,VF,XB⟩:=hZZ;have XC:=I7.pinned (VN XB) (T.obj _ _ VF);refine a_ (h_ (hg _ _ _ _ _ _ s7 (eG ix σ) H7 x u _ XC r7 (step x H7 y7)) (fun _ s8 hZZ=>?_) fun _ _ f=>f.elim);obtain⟨σ8,H8,I8,x8,q8⟩:=hZZ;obtain⟨xl,xv⟩:=x8.spec;have UW:∀{σ9:St}{H9:Hp}{s9:Uy}{pl:List (Ux×Obj)},(∀p∈ck fp s7.heap,p∈pl)->NO (cV X sc N' G2.objs.size cl s2 H2 fp) pl σ9 H9 s9->tn (i+1) s9.heap/\∀b∈fp,H9 b=none:=fun{σ9 H9 s9 pl}hp I9=>by
    have pn:∀b o,b∈fp->s7.heap.get? b=some o->s9.heap.get? b=some o/\H9 b=none:=fun b o hb e=>by
     have:=I9.pin (b,o) (JE _ (hp _ (da hb e)));exact⟨this.1,this.2.1⟩
    refine⟨T.keep _ _ _ VF fun b hb o e=>(pn b o hb e).1,fun b hb=>?_⟩;obtain⟨o,e,_⟩:=T.obj _ _ VF b hb;exact(pn b o hb e).2
   refine a_ (c_ (a_ (a_ (h_ (Yp _ _ _ _ _ _ s8 σ8 H8 _ I8 q8) (fun kv s9⟨y,H9,I9,r9,q9⟩=>a_ (s_ (h_ (W_ _ _ _ _ _ _ s9 σ8 H9 _ I9 q9) (fun vv sA⟨v,HA,IA,rA,HB,VO,m',hm,wA⟩=>a_ (o_ (s_ (lP (X:=cV X sc N' G2.objs.size cl s2 H2 fp) hu IA VO r9 rA fun h' t' sb IB=>?_)))) fun _ _ f=>f.elim))) fun _ _ f=>f.elim))));obtain⟨t9,WU⟩:=UW (fun p hp=>JE _ hp) IB;exact c_ ⟨rfl,m',hm,i+1,HB,(IB.pins_of (pins':=[]) fun p hp=>nomatch hp).weak xl xv,t9,WU,wA⟩
 subst Vq;exact codeAny_compStart_dict (loop _ rfl) (T.self X.A 0 _ _ _ (T.keep _ _ _ V2 (fun b _ o e=>UH b o e)) (loop _ rfl))
def F8{N:UD}{sc0:Scope}(hu:X.A.units<cLine)(hc:X.calm=true)(Vh:jX N sc0 sc N' ix=true)(hi:PI X tg iter wi)
  (hg:∀C cl s H fp,PG (cV X sc N' C cl s H fp) tg g) (Yp:∀C cl s H fp,PE (cV X sc N' C cl s H fp) kx tk) (W_:∀C cl s H fp,PE (cV X sc N' C cl s H fp) vx tv)
  (eN:X.N=N:=by rfl) (eS:X.env.scope=sc0:=by rfl) (hs:∀x,foldedSetIterable iter X.env x=pure x:=by intro _;rfl) :
  PE X (.DictComp kx vx [⟨tg,iter,[],0⟩] sc pos) (Jc wi g tk tv ix):=by
 refine⟨?_⟩;intro K3 s σ H Q I h;subst eN eS;rw[arm_eval_DictComp];refine Ay hu hc Vh hi hg Yp W_ hs I h fun C D H' s' L q=>?_;obtain⟨m,hn⟩:=L.ns;exact⟨m,hn,fun h' sb=>⟨.ref D,H',L.gone sb,rfl,q⟩⟩
def DNx(Pv:Ux->Nat->Hp->Prop)(D:Ux)(n i:Nat)(H:Hp):Prop:=∃m',m'<n-i/\(m'=n-(i+1)/\i+1<=n/\Pv D (i+1) H)
def DNx.mk{Pv:Ux->Nat->Hp->Prop}{D:Ux}{n i:Nat}(h:i<n)(p:Pv D (i+1) H):DNx Pv D n i H:=⟨n-(i+1),zo,rfl,h,p⟩
def Az{K:ZF}{l:Ux}{xs:UG}(Pv:Ux->Nat->Hp->Prop)(h0:∀D,H D=none->Pv D 0 (az H D (.dT [])))
  (hl:∀D i H,i<=xs.length->Pv D i H->NQ K H l xs)
  (hs:∀D i x H T,xs[i]?=some x->H T=none->Pv D i H->g (.ref T) (eG ix σ) (az H T (.tup [.int i,x])) fun σ2 H2=>Ob (eG ix σ) σ2/\tk σ2 H2 fun y H3=>tv σ2 H3 fun v H4=>∃H5,Oh H4 D y v H5/\DNx Pv D xs.length i H5)
  (hd:∀D H,Pv D xs.length H->Q (.ref D) H):F7 (CQ K l) g tk tv ix σ H Q:=by
 intro D hD;refine⟨fun i m H=>m=xs.length-i/\i<=xs.length/\Pv D i H,⟨xs.length,by simp,JN _,h0 D hD⟩,?_⟩;rintro i m H ⟨rfl,hi,p⟩;have q:=hl D i H hi p;by_cases Ld:i<xs.length
 ·refine .inr ⟨⟨xs,xs[i],q,by simp[Ld]⟩,fun v H' y=>?_⟩;obtain⟨T,x,e1,hT,e2,hy⟩:=y;subst e1 e2;exact hs D i x H T (hy xs q) hT p
 ·have e:i=xs.length:=by lia
  subst e;exact .inl ⟨⟨xs,q,JB _⟩,hd D H p⟩
end
def Ox(h:Heap)(d:Ux)(es:Array DictEntry)(ep:Nat):Prop:=∃o,h.get? d=some o/\o.ExactDict/\o.data=.dict es ep
variable{d:Ux}
def Ox.ty{s:Uy}{es ep}(x:Ox s.heap d es ep):s.TypeIs (.ref d) "dict":=by obtain⟨o,h,c,_⟩:=x;exact ⟨o,h,c.1⟩
variable{h h':Heap}
def Ox.at{es ep}(x:Ox h d es ep)(e:∀o,h.get? d=some o->h'.get? d=some o):Ox h' d es ep:=let⟨o,q,r⟩:=x;⟨o,e _ q,r⟩
def Ox.lt{es ep}(x:Ox h d es ep):d<h.objs.size:=let⟨o,q,_⟩:=x;JD q
section
variable{prog:Uz}{w:UA}{A:UB}{E:Uw->Uy->Prop}{s:Uy}{es:Array DictEntry}{ep:Nat}
def AA{Q:Uw->Uy->Prop}(hd:(d==sysModules)=false)(hm:Ox s.heap d es ep)(hQ:Q (.ref s.heap.objs.size) {s with heap:=s.heap.push {cls:=.type "dict_keyiterator",data:=.fields #[.ref d,.int 0 0,.int es.size 0,.int ep 0]} }):wpAny (model prog w) A (pyIter (.ref d)) Q E s:=by
 obtain⟨o,ho,hc,UQ⟩:=id hm;have hT:s.TypeIs (.ref d) "dict":=hm.ty;refine wpAny_pyIter_slot hT F.slot_dict_iter (t_ F.slot_dict_iter hT F.entry_dict_iter ?_ (F.args_dict_iter_1 _));unfold Builtin.«dict.__iter__»;refine a_ ?_;unfold Builtin.Dict.dictSlotNone;refine a_ (wpAny_notOrdered_dict hT ?_);show wpAny _ _ (pure (Value.ref d)) _ _ s;refine c_ ?_;show wpAny _ _ (Builtin.Dict.showsAll d>>=_) _ _ s;unfold Builtin.Dict.showsAll;rw[e_ (by rw[hd];exact JK)];refine a_ (c_ ?_);refine a_ (SB ho UQ ?_);refine a_ (wpAny_dictEpoch ho UQ ?_);refine a_ (l_ (c_ ⟨_,rfl,"dict_keyiterator",_,⟨_,JG _ rfl,rfl⟩,F.slot_dict_keyiterator_next.lookup,?_⟩));simpa[rawInt]using hQ
variable{Q:Option Uw->Uy->Prop}{i:Nat}{it:Ux}
def AB(US:s.heap.IsKeyIter it d i es.size ep)(hm:Ox s.heap d es ep)(VP:i<es.size)(hQ:∀h',h'.IsKeyIter it d (i+1) es.size ep->Heap.SameBut it s.heap h'->Q (some es[i].key) {s with heap:=h'}):wpAny (model prog w) A (pyNext (.ref it)) Q E s:=by
 obtain⟨o,ho,hc,hd⟩:=id US;obtain⟨od,Yn,U8,Yw⟩:=id hm;unfold pyNext;refine a_ (R_ (q_ (name:=Str.ofString "__next__") US.typeIs C_ (t_ C_ US.typeIs F.entry_dict_keyiterator_next ?_ (SM _))));refine a_ (c_ ?_);refine a_ ?_;refine a_ ?_
 (first|refine a_ (z_ US.typeIs (c_ ?_))|refine a_ (j' US.typeIs (c_ ?_)));refine a_ (wpAny_fieldsOf ho hd ?_)
 have XG:Builtin.Dict_items.ownsTuple "dict_keyiterator"=false:=zd;simp only[XG,Sk,R9];show wpAny _ _ (if(Value.ref d==Value.none)=true then _ else _) _ _ s;rw[e_ (show¬((Value.ref d==Value.none)=true)from JK)];refine a_ (c_ ?_);refine a_ (SB Yn Yw ?_);rw[e_ (by simp)];refine a_ (c_ ?_);refine a_ (wpAny_dictEpoch Yn Yw ?_);rw[e_ (by simp)];refine c_ ?_;simp only[show¬((i:Int)<0)from by lia,R9,Kq,Array.getElem?_eq_getElem VP];refine a_ ?_
 (first|refine a_ (z_ US.typeIs (c_ ?_))|refine a_ (j' US.typeIs (c_ ?_)));refine a_ (wpAny_isOneOf_keyiter US.typeIs ?_)
 show wpAny _ _ (setField (.ref it) 1 (rawInt ((i:Int)+1))>>=_) _ _ s;refine a_ (y_ ho hd (by simp) ?_);have V9:(s.heap.update it (Obj.mapFields (·.setIfInBounds 1 (rawInt ((i:Int)+1))))).IsKeyIter it d (i+1) es.size ep:=⟨_,n_ _ ho (Obj.isFreed_of_fields (RY hd _)),(Obj.cls_mapFields ..).trans hc,by rw[RY hd];simp[rawInt]⟩;refine a_ (s_ ?_);refine a_ (wpAny_isOneOf_keyiter (s:={s with heap:=s.heap.update it (Obj.mapFields (·.setIfInBounds 1 (rawInt ((i:Int)+1))))}) V9.typeIs ?_);show wpAny _ _ (pure es[i].key) _ _ _;exact c_ (c_ ⟨_,rfl,c_ (hQ _ V9 (m_ ..))⟩)
def DD(hh:A.handled=none)(US:s.heap.IsKeyIter it d i es.size ep)(hm:Ox s.heap d es ep)(hge:es.size<=i)(hQ:∀h',Heap.ExtBut it s.heap h'->Q none {s with heap:=h'}):wpAny (model prog w) A (pyNext (.ref it)) Q E s:=by
 obtain⟨o,ho,hc,hd⟩:=id US;obtain⟨od,Yn,U8,Yw⟩:=id hm;unfold pyNext;refine a_ (R_ (q_ (name:=Str.ofString "__next__") US.typeIs C_ (t_ C_ US.typeIs F.entry_dict_keyiterator_next ?_ (SM _))));refine a_ (c_ ?_);refine a_ ?_;refine a_ ?_
 (first|refine a_ (z_ US.typeIs (c_ ?_))|refine a_ (j' US.typeIs (c_ ?_)));refine a_ (wpAny_fieldsOf ho hd ?_)
 have XG:Builtin.Dict_items.ownsTuple "dict_keyiterator"=false:=zd;simp only[XG,Sk,R9];show wpAny _ _ (if(Value.ref d==Value.none)=true then _ else _) _ _ s;rw[e_ (show¬((Value.ref d==Value.none)=true)from JK)];refine a_ (c_ ?_);refine a_ (SB Yn Yw ?_);rw[e_ (by simp)];refine a_ (c_ ?_);refine a_ (wpAny_dictEpoch Yn Yw ?_);rw[e_ (by simp)];refine c_ ?_;simp only[show¬((i:Int)<0)from by lia,R9,Kq,Array.getElem?_eq_none hge];refine a_ ?_
 (first|refine a_ (z_ US.typeIs (c_ ?_))|refine a_ (j' US.typeIs (c_ ?_)))
 show wpAny _ _ (setField (.ref it) 0 .none>>=_) _ _ s;refine a_ (y_ ho hd (by simp) ?_);show wpAny _ _ (newExc (.type "StopIteration") []>>=_) _ _ _;refine a_ ?_;simp only[newExc,newTuple];refine a_ (l_ ?_ (by size_fits));refine a_ (m:=firstArgMember _ _) (wpAny_of_eq (a:=Value.none) (by first|rfl|(simp only[firstArgMember];rfl)) ?_);refine l_ ?_ (by size_fits);simp only[raiseNew];refine a_ (wpAny_handled ?_);rw[show A.in1.handled=none from hh];refine a_ (c_ (wpAny_throw ?_));refine a_ (wpAny_isInstance (T:="StopIteration") (b:=true) ⟨_,JG _ rfl,rfl⟩ isSubtype_stop ?_);exact c_ (hQ _ (((m_ ..).extBut.push _).push _))
def yb(hh:A.handled=none)(I d:Ux)(La:d≠I):Walks prog w A I [I,d] [I] es.size (fun i v=>∃e,es[i]?=some e/\v=e.key) (fun i h=>h.IsKeyIter I d i es.size ep/\Ox h d es ep) where
 sub:=fun b hb=>by simp at hb;simp[hb]
 frame:=fun _ _ _ st hk=>⟨st.1.at fun o e=>hk I (by simp) o e,st.2.at fun o e=>hk d (by simp) o e⟩
 item:=fun i s Q E hi st hQ=>AB st.1 st.2 hi fun h' V9 WM=>hQ _ h' s.toks ⟨es[i],by simp[hi],rfl⟩ ⟨V9,st.2.at fun o e=>WM.extBut _ o La e⟩ fun b o hb e=>WM.extBut b o (fun h=>hb (by simp[h])) e
 done:=fun s Q E st hQ=>DD hh st.1 st.2 (JB _) fun h' V5=>hQ h' s.toks fun b o hb e=>V5 b o (fun h=>hb (by simp[h])) e
 self:=fun _ _ _ _ st hQ=>wpAny_pyIter_keyiter st.1 hQ
def DF(lo:(d==sysModules)=false):PySem.W.KdlSrc prog w "dict" d d es.size (fun i v=>∃e,es[i]?=some e/\v=e.key) (fun h=>Ox h d es ep) where
 type:=fun _ hm=>hm.ty
 there:=fun _ hm=>⟨hm.lt,hm.lt⟩
 keep:=fun _ _ hm hk=>hm.at fun o e=>hk d (.inl rfl) o e
 notList:=by decide
 notTuple:=by decide
 hint:=fun _ _ _ _ hm hq=>PySem.W.kdl_hint_dict hm.ty hq
 iter:=fun _ _ hh hm=>⟨_,_,(fun _ _ hq=>AA lo hm hq),yb hh _ d (JO hm.lt),⟨⟨_,JG _ rfl,rfl,rfl⟩,hm.at fun o e=>Jz _ e⟩⟩
def yc{a:Ux}{v:Uw}{n:Nat}{P:Fin->Uy->Prop}(ho:s.heap.get? a=some (seqObj "list" #[v] n))(h:∀h' c,(∀b,b≠a->b<s.heap.objs.size->h'.get? b=s.heap.get? b)->h'.get? a=some (seqObj "list" #[v] c)->P (.done (.ret .none)) {s with heap:=h'}):wpAny (model prog w) A (Builtin.«list.sort» ⟨[.ref a],[]⟩) P E s:=by
 have VJ:s.heap.get? a=some (seqObj "list" [v].toArray n):=ho;rw[list_sort_plain];have ha:a<s.heap.objs.size:=JD ho;refine a_ (listItems_at VJ rfl ?_);refine a_ (listUpdate_at VJ rfl ?_);obtain⟨e1,U4⟩:∃e1,(s.heap.update a (Obj.mapSeq fun _=>#[])).get? a=some (seqObj "list" #[] e1):=⟨_,get?_update_seq ho (fun _=>#[])⟩;refine a_ (seqEpoch_at U4 rfl ?_);refine a_ (wpAny_newTuple ?_);refine a_ (wpAny_newList ?_);refine s_ ?_;have Xu:(((s.heap.update a (Obj.mapSeq fun _=>#[])).push (seqObj "tuple" [v].toArray 0)).push (seqObj "list" #[] 0)).get? a=some (seqObj "list" #[] e1):=by rw[Heap.get?_push_ne _ _ _ (by rw[size_push',Heap.size_update];exact JO (RR ha)),Heap.get?_push_ne _ _ _ (by rw[Heap.size_update];exact JO ha)];exact U4
 show wpAny (model prog w) A _ P E {s with heap:=((s.heap.update a (Obj.mapSeq fun _=>#[])).push (seqObj "tuple" [v].toArray 0)).push (seqObj "list" #[] 0)};dsimp only;have h2:([v]:List Uw).toArray.size<2:=(by simp);rw[g_ h2,g_ h2];refine a_ (c_ ?_);rw[StateT.run_pure];refine a_ (c_ ?_);dsimp only;refine a_ (seqEpoch_at Xu rfl ?_);refine a_ (listUpdate_at Xu rfl ?_ (hsz2:=by rw[Array.size_map];show(pairsOf [v]).size<=_;rw[pairsOf_size,sizeLine_eq];simp));simp only[bne_self_eq_false,Sk,R9];have eo:(arrOf (SortSt.mk' general' (([v]:List Uw).toArray.zip ([v]:List Uw).toArray) #[] 7 none)).map (fun p=>p.2)=#[v]:=by
  show(pairsOf [v]).map (fun p=>p.2)=#[v];simp[pairsOf]
 obtain⟨c,hc⟩:=sortedHeap_at (out:=#[v]) VJ;have P':=h _ c (fun b hb Ld=>sortedHeap_old (out:=#[v]) hb Ld) hc;rw[eo];exact c_ P'
end
section
variable{prog:Uz}{w:UA}{A:UB}{R:Result->Uy->Prop}{s:Uy}{es:Array DictEntry}{ep:Nat}{d:Ux}
def pM(lo:(d==sysModules)=false)(hh:A.handled=none)(D:Ox s.heap d es ep)(hn:es.size<=sizeLine)
  (hR:∀h' tk G' c',(∀b o,b≠s.heap.objs.size->(s.heap.push {cls:=.type "list",data:=.seq #[]}).get? b=some o->h'.get? b=some o)->h'.get? s.heap.objs.size=some {cls:=.type "list",dict:=none,data:=.seq G' c',slots:=#[]}->ItemsOf (fun i v=>∃e,es[i]?=some e/\v=e.key) G' es.size->R (.ok (.ret (.ref s.heap.objs.size))) {s with heap:=h',toks:=tk}) :
  codeAny (model prog w) A (.builtin "proto.collect" ⟨[.ref d],[]⟩) R s:=by
 have Ld:=D.lt;refine Si entry_proto_collect' ?_;rw[Q_ F.plain_proto_collect _];refine a_ (m:=newList []) (l_ ?_);refine c_ ⟨Su F.plain_list_iadd _,Si F.entry_list_iadd ?_⟩;rw[Q_ F.plain_list_iadd _];have hS0:(s.heap.push {cls:=.type "list",data:=.seq #[]}).get? s.heap.objs.size=some {cls:=.type "list",data:=.seq #[]}:=JG _ rfl;exact PySem.W.kdl_extend (s:={s with heap:=s.heap.push {cls:=.type "list",data:=.seq #[]} }) (DF (es:=es) (ep:=ep) lo) hh (D.at fun o e=>Jz _ e) s.heap.objs.size (KC Ld) (KC Ld) _ 0 hS0 hR hn
end
section
variable{X:Cx}
def pN{k:Nat}(hr:NZ k X.A):cH X (.builtin "sorted") (fun xs H Q=>∃(a:Ux)(ks:List dm)(v:V),xs=[.ref a]/\H a=some (.dT [(ks,v)])/\∀p c,H p=none->H c=some (.tup (ks.map kV))->Q (.ref p) (az H p (.lst [.ref c]))):=by
 intro K3 s σ H xs us Q I r h;obtain⟨a,ks,v,rfl,ha,q⟩:=h;obtain⟨u,rfl,rx⟩:=dB r;cases rx;obtain⟨_,lo,ys,pr,o,es,ep,ho,hx,hd,he,_⟩:=(show N2 X.prog X.w H s.heap a (.dT [(ks,v)])from I.hok a _ ha);obtain⟨y,rfl,hy⟩:∃y,ys=[y]/\H y.2.1=some (.tup (ks.map kV)):=by
  cases pr with
  |cons h t=>cases t;exact⟨_,rfl,h.2.1⟩
 have VW:es.size=1:=by rw[<-Kt,he];rfl
 have XI:∀e,es[0]?=some e->e.key=.ref y.2.1:=fun e z=>by
  rw[<-R8,he]at z;cases z;rfl
 have R:Ox s.heap a es ep:=⟨o,ho,hx,hd⟩;refine Calls.call_function_entry kind_sorted plain_sorted entry_sorted (args_sorted1 _) ?_;unfold Builtin.«sorted»;refine a_ (m:=checkCount "sorted" 1 1 _) (c_ ?_);have Ld:a<s.heap.objs.size:=R.lt;refine a_ ?_;unfold collect;refine a_ (wpAny_runValue (pM lo hr.hd R (by rw[VW];decide) fun h' tk G' c' keep hS Vv=>?_));have eacc:G'=#[.ref y.2.1]:=by
  obtain⟨h1,h2⟩:=Vv;rw[VW]at h1;have h3:0<G'.size:=by rw[h1];decide
  obtain⟨e,e1,e2⟩:=h2 0 G'[0] (by simp[h3]);rw[XI e e1]at e2;apply Array.ext
  ·rw[h1];rfl
  ·intro i h4 h5;have:i=0:=by simp at h5;exact h5
   subst this;exact e2
 subst eacc;show wpAny _ _ (load s.heap.objs.size>>=_) _ _ _;refine a_ (wpAny_load hS (c_ ?_));refine a_ (wpAny_newList ?_ N0);have Zk:(h'.push (seqObj "list" #[.ref y.2.1] 0)).get? h'.objs.size=some (seqObj "list" #[.ref y.2.1] 0):=JG _ rfl;show wpAny _ _ _ _ _ {s with heap:=h'.push (seqObj "list" #[.ref y.2.1] 0),toks:=tk};refine a_ (s_ (t_ slot_list_sort ⟨_,Zk,rfl⟩ entry_list_sort (yc Zk fun h2 c2 UH at2=>⟨_,rfl,?_⟩) (args_list_sort _)));have YZ:∀b o,s.heap.get? b=some o->h2.get? b=some o:=fun b o e=>by
  have e1:=keep b o (JO (JD e)) (Jz _ e);have hb:=JD e1;rw[UH b (JO hb) (by rw[Kl];exact RR hb)];exact Jz _ e1
 have hsz:s.heap.objs.size<=h'.objs.size:=So (JD hS);refine c_ ⟨_,rfl,.ref h'.objs.size,_,I.laid (t':=tk) (a:=h'.objs.size) (o:=.lst [.ref y.2.1]) YZ hsz ?_,rfl,q _ _ (I.hok.fresh hsz) hy⟩;exact⟨N0,[.ref y.2.1],c2,.cons rfl .nil,at2⟩
end
end L2
namespace L3
open PySem L2
abbrev i4:Stmt:=top 51
abbrev kB:Stmt:=top 52
abbrev yd:Stmt:=top 55
abbrev ye:Stmt:=top 56
abbrev yf:Stmt:=top 53
abbrev kC:Stmt:=top 54
abbrev yg:Stmt:=top 21
def fO{X:Cx}:eM X (compareOp .Is) (fun x y H Q=>∃b,y=.bl b/\(x=.non\/∃c,x=.bl c)/\Q (.bl (decide (x=.bl b))) H):=by
 intro K3 s σ H x y v u Q I rx ry h;obtain⟨b,rfl,hx,q⟩:=h;cases ry;rcases hx with rfl|⟨c,rfl⟩
 ·cases rx;refine c_ (a:=Value.bool (Value.none==Value.bool b)) ⟨.bl false,H,I,?_,q⟩;cases b<;>rfl
 ·cases rx;exact PyProof.Rows.is_bool ⟨.bl (decide (V.bl c=V.bl b)),H,I,by cases b<;>cases c<;>rfl,q⟩
mutual
variable{H H':Hp}{K:ZF}
def Dt.same(s:NJ H H'):∀{v:V}{d:PyData},Dt K H v d->Dt K H' v d
 |_,_,.non=>.non
 |_,_,.bl b=>.bl b
 |_,_,.int i=>.int i
 |_,_,.str x=>.str x
 |_,_,.lst a b=>.lst (by rcases a with(e|⟨o,e⟩)|r;exact .inl (.inl (s _ _ e));exact .inl (.inr ⟨o,s _ _ e⟩);exact .inr r) (N4.same s b)
 |_,_,.tup a b=>.tup (by rcases a with(e|⟨o,e⟩)|r;exact .inl (.inl (s _ _ e));exact .inl (.inr ⟨o,s _ _ e⟩);exact .inr r) (N4.same s b)
def N4.same(s:NJ H H'):∀{v:UG}{d:List PyData},N4 K H v d->N4 K H' v d
 |_,_,.nil=>.nil
 |_,_,.cons a b=>.cons (Dt.same s a) (N4.same s b)
end
inductive Qg(vs:UG)(H:Hp)(Q:VK)(Z3:XK):Prop
 |mk(ch s:V)(n:Nat):vs=[ch,s]->PN H false n s->Q (.int (n:Int)) H->Qg vs H Q Z3
inductive O6(vs:UG)(H:Hp)(Q:VK)(Z3:XK):Prop
 |mk(a t:Ux)(s:Str)(n:Nat):vs=[.ref a,.ref t]->H a=some (.tup [])->H t=some (.tup [.str s,.int (n:Int)])->(∀H',NJ H H'->Q .non H')->O6 vs H Q Z3
inductive Es:Ed->Prop
 |pl (n:Nat):Es (.pl false n)
 |mk(n:Nat):Es (.mk false n)
 |num (n:Nat):Es (.num n)
def hdw:Ed->Option (Str×Nat)
 |.pl _ n=>some (SU,n)
 |.mk _ n=>some (S2,n)
 |.num n=>some ("number",n)
 |_=>none
inductive Py(H:Hp)(v:V)(e:Ed):Prop
 |mk(p:Ux)(s:Str)(n:Nat):v=.ref p->H p=some (.tup [.str s,.int (n:Int)])->hdw e=some (s,n)->Py H v e
def Py.same{H H':Hp}{v:V}{e:Ed}(h:Py H v e)(s:NJ H H'):Py H' v e:=by obtain⟨p,a,n,x,y,z⟩:=h;exact ⟨p,a,n,x,s _ _ y,z⟩
inductive OW(vs:UG)(H:Hp)(Q:VK)(Z3:XK):Prop
 |mk(t ch u:V)(a:Ux)(e:Ed):vs=[t,ch,.ref a,u]->H a=some (.tup [])->Od H e u->Es e->(∀v H',NJ H H'->Py H' v e->Q v H')->OW vs H Q Z3
section
variable{P:Uz}{w:UA}{K:ZF}{mg:Str->Option Uw}{base:Heap}{C fi aS aE aF aO:Ux}{t1 t2 t3 t4 t5 tM:Tok}
def Rt:al [SW,Tu] [SW,Tu] (ah i4):=bH zk
def Re(F:N1 K "selected" "selected" i4 f fd):NN P w K mg base br 1 f fd [SW,Tu] Qg:=by
 have ZZ:=Rt
 walk_at "o"
 ·obtain⟨ch,s,n,rfl,⟨p,rfl,hp⟩,q⟩:=h;refine⟨_,(ag (am (bx (ak aY (ax ar (pv 1) ai) aj) (ax ar (pv 1) ai) (ax ar (pv 0) (ax ar (pv 1) ai))))),?_⟩;refine⟨_,rfl,p,_,_,_,rfl,rfl,NL.of hp,bf,rfl,_,rfl,bj zk ?_⟩;exact⟨_,rfl,p,_,_,_,rfl,rfl,NL.of hp,cn,q⟩
def P8:al [SX,Uc,"truths",Tg,"number"] [SX,Uc] (ah kB):=bH zk
def Rg(F:N1 K "decided" "decided" kB f fd)(B3:BE mg):NN P w K mg base br 1 f fd [SX,Uc] O6:=by
 have ZZ:=P8
 walk_at "o"
 ·obtain⟨a,t,s,n,rfl,ha,ht,q⟩:=h;have hr0:NZ 0 _:=hr;have hu:=lD hr;refine⟨_,(ae (bS (i:=2) P8.nd (aV (eY hr) (by rfl) B3.dict dI (aa (pv 0) ab))) (ae (aM (lV (qw hu (pv 1) (pv 2))) (ag (am (g6 hu (pv 2) (pv 1)))) aw) (ae (cu (pv 1) (bT rfl (aq (bM (i:=3) P8.nd) (aq (bM (i:=4) P8.nd) bi)))) (ae (aM (PW.pt (cr (ak aY (pv 3) aj) (cb (ak fO (o6 hu (pv 2) (av (aa aj (aa (pv 4) ab))) ⟨rfl,rfl,rfl,rfl⟩) cq)))) (ag (am cq)) aw) (ae (aM (PW.pt (cr (ak aY (pv 3) aj) (cb (ak fO (o6 hu (pv 2) (av (aa aj (aa (pv 4) ab))) ⟨rfl,rfl,rfl,rfl⟩) cq)))) (ag (am cq)) aw) (ag (am cN))))))),?_⟩;refine⟨_,rfl,⟨true,a,[],rfl,ha,fun d nd=>⟨.dT [],_,.inr rfl,.nil,?_⟩⟩⟩;have s1:=af (o:=.dT []) nd;have e1:az H d (.dT []) d=some (.dT []):=ac;generalize az H d (.dT [])=H1 at*;have XT:=s1 _ _ ht;refine⟨_,rfl,_,rfl,d,_,rfl,N9.t (k:=[.inr s,.inl (n:Int)]) e1 XT,?_⟩;refine⟨_,rfl,bJ ?_⟩;refine⟨_,rfl,t,_,rfl,NL.of XT,rfl,_,_,rfl,_,_,rfl,rfl,?_⟩;by_cases h1:s=SU
  ·subst h1;refine⟨_,rfl,rfl,_,rfl,bj (b_ rfl) ?_⟩;refine⟨_,rfl,d,rfl,.inr ⟨_,.inl e1⟩,⟨_,rfl,N0,fun p np=>?_⟩⟩;have s2:=af (o:=.tup [.str T9,.int (n:Int)]) np;have e2:az H1 p (.tup [.str T9,.int (n:Int)]) p=some (.tup [.str T9,.int (n:Int)]):=ac;generalize az H1 p (.tup [.str T9,.int (n:Int)])=H2 at*;refine⟨_,N9.t (k:=[.inr T9,.inl (n:Int)]) (s2 _ _ e1) e2,true,rfl,.inl rfl,_,rfl,bJ ?_⟩;refine⟨_,rfl,rfl,_,rfl,aN (d_ (by intro z;cases V.str.inj z)) ?_⟩;exact q _ (s1.trans s2)
  ·refine⟨_,rfl,rfl,_,rfl,aN (d_ fun z=>h1 (V.str.inj z)) ?_⟩;by_cases h2:s=T9
   ·subst h2;refine⟨_,rfl,rfl,_,rfl,bj (b_ rfl) ?_⟩;refine⟨_,rfl,d,rfl,.inr ⟨_,.inl e1⟩,⟨_,rfl,N0,fun p np=>?_⟩⟩;have s2:=af (o:=.tup [.str SU,.int (n:Int)]) np;have e2:az H1 p (.tup [.str SU,.int (n:Int)]) p=some (.tup [.str SU,.int (n:Int)]):=ac;generalize az H1 p (.tup [.str SU,.int (n:Int)])=H2 at*;refine⟨_,N9.t (k:=[.inr SU,.inl (n:Int)]) (s2 _ _ e1) e2,false,rfl,.inl rfl,_,rfl,bJ ?_⟩;exact q _ (s1.trans s2)
   ·refine⟨_,rfl,rfl,_,rfl,aN (d_ fun z=>h2 (V.str.inj z)) ?_⟩;exact q _ s1
def Rf:al [SQ,SW,SX,Uu,Us,"truth"] [SQ,SW,SX,Uu] (ah yd):=bH zk
def Q1(F:N1 K "atom_of" "atom_of" yd f fd)(SE:Fn P w K mg base "selected" 1 [SW,Tu] Qg)(DE:Fn P w K mg base "decided" 1 [SX,Uc] O6)(AD:Fn P w K mg base "address_told" 0 [SQ,SW,SX,Uu] hZ):NN P w K mg base br 2 f fd [SQ,SW,SX,Uu] OW:=by
 have ZZ:=Rf
 walk_at "o"
 ·obtain⟨t,ch,u,a,e,rfl,ha,hu,he,q⟩:=h;refine⟨_,(ae (aM (ak bX (ax ar (pv 3) ai) (av (aa aj (aa aj ab))) rfl) (ag (am (pv 3))) aw) (ae (aM (ak aY (ax ar (pv 3) ai) aj) (ag (am (av (aa aj (aa (ap AD hr.m rfl (aa (pv 0) (aa (pv 1) (aa (pv 2) (aa (ax ar (pv 3) ai) ab))))) ab))))) aw) (ae (bS (i:=4) Rf.nd (av (aa (ax ar (pv 3) ai) (aa (ap SE hr rfl (aa (pv 1) (aa (ax ar (pv 3) ai) ab))) ab)))) (ae (bS (i:=5) Rf.nd (ap DE hr rfl (aa (pv 2) (aa (pv 4) ab)))) (ae (aM (ak fO (pv 5) cq) (ag (am (av (aa aj (aa ai ab))))) aw) (ag (am (bx (PW.pt (cr (ak fO (pv 5) cq) (cb (ak aY (ax ar (pv 3) ai) aj)))) (av (aa aj (aa ai ab))) (pv 4))))))))),?_⟩;cases he with
  |num n=>
   obtain⟨p,rfl,hp⟩:=hu;refine⟨_,rfl,p,_,_,_,rfl,rfl,NL.of hp,bf,N0,fun t1 n1=>?_⟩;have s1:=af (o:=.tup [.str "number",.str TZ]) n1;refine⟨t1,_,rfl,.inr (NL.of ac),rfl,bu ["number",TZ],_,rfl,bj zk ?_⟩;exact⟨_,rfl,q _ _ s1 ⟨p,_,_,rfl,s1 _ _ hp,rfl⟩⟩
  |pl n=>
   obtain⟨p,u',rfl,hp,VI⟩:=hu;refine⟨_,rfl,p,_,_,_,rfl,rfl,NL.of hp,bf,N0,fun t1 n1=>?_⟩;have s1:=af (o:=.tup [.str "number",.str TZ]) n1;refine⟨t1,_,rfl,.inr (NL.of ac),rfl,bu ["number",TZ],_,rfl,aN zk ?_⟩;generalize az H t1 (.tup [.str "number",.str TZ])=H1 at*;have Vn:=s1 _ _ hp;refine⟨_,rfl,p,_,_,_,rfl,rfl,NL.of Vn,bf,rfl,_,rfl,aN zk ?_⟩;refine⟨_,rfl,p,_,_,_,rfl,rfl,NL.of Vn,bf,_,rfl,_,rfl,p,_,_,_,rfl,rfl,NL.of Vn,cn,ch,u',n,rfl,VI.kt (ay s1),N0,fun p2 n2=>?_⟩;have s2:=af (o:=.tup [.str SU,.int (n:Int)]) n2;have e2:az H1 p2 (.tup [.str SU,.int (n:Int)]) p2=some (.tup [.str SU,.int (n:Int)]):=ac;generalize az H1 p2 (.tup [.str SU,.int (n:Int)])=H2 at*;have UX:=s1.trans s2;refine⟨_,rfl,_,rfl,a,p2,SU,n,rfl,UX _ _ ha,e2,fun H3 s3=>?_⟩;refine⟨_,rfl,false,rfl,.inl rfl,_,rfl,bJ ?_⟩;refine⟨_,rfl,true,rfl,.inl rfl,_,rfl,bJ ⟨_,rfl,?_⟩⟩;exact q _ _ (UX.trans s3) ⟨p2,_,_,rfl,s3 _ _ e2,rfl⟩
  |mk n=>
   obtain⟨p,u',rfl,hp,VI⟩:=hu;refine⟨_,rfl,p,_,_,_,rfl,rfl,NL.of hp,bf,N0,fun t1 n1=>?_⟩;have s1:=af (o:=.tup [.str "number",.str TZ]) n1;refine⟨t1,_,rfl,.inr (NL.of ac),rfl,bu ["number",TZ],_,rfl,aN zk ?_⟩;generalize az H t1 (.tup [.str "number",.str TZ])=H1 at*;have Vn:=s1 _ _ hp;refine⟨_,rfl,p,_,_,_,rfl,rfl,NL.of Vn,bf,rfl,_,rfl,aN zk ?_⟩;refine⟨_,rfl,p,_,_,_,rfl,rfl,NL.of Vn,bf,_,rfl,_,rfl,p,_,_,_,rfl,rfl,NL.of Vn,cn,ch,u',n,rfl,VI.kt (ay s1),N0,fun p2 n2=>?_⟩;have s2:=af (o:=.tup [.str S2,.int (n:Int)]) n2;have e2:az H1 p2 (.tup [.str S2,.int (n:Int)]) p2=some (.tup [.str S2,.int (n:Int)]):=ac;generalize az H1 p2 (.tup [.str S2,.int (n:Int)])=H2 at*;have UX:=s1.trans s2;refine⟨_,rfl,_,rfl,a,p2,S2,n,rfl,UX _ _ ha,e2,fun H3 s3=>?_⟩;refine⟨_,rfl,false,rfl,.inl rfl,_,rfl,bJ ?_⟩;refine⟨_,rfl,true,rfl,.inl rfl,_,rfl,bJ ⟨_,rfl,?_⟩⟩;exact q _ _ (UX.trans s3) ⟨p2,_,_,rfl,s3 _ _ e2,rfl⟩
inductive PP(vs:UG)(H:Hp)(Q:VK)(Z3:XK):Prop
 |mk(t ch u:V)(a:Ux)(n:Nat):vs=[t,ch,.ref a,u]->H a=some (.tup [])->Od H (.pl false n) u->(∀v H',NJ H H'->Py H' v (.pl false n)->Q v H')->PP vs H Q Z3
def RI:al [SQ,SW,SX,Uu,Us] [SQ,SW,SX,Uu] (ah ye):=bH zk
def QT(F:N1 K "address_told" "address_told" ye f fd)(T:Tc K C)(AT:Fn P w K mg base "atom_of" 2 [SQ,SW,SX,Uu] OW):NN P w K mg base br 3 f fd [SQ,SW,SX,Uu] PP:=by
 have ZZ:=RI
 walk_at "o"
 ·obtain⟨t,ch,u,a,n,rfl,ha,hu,q⟩:=h;refine⟨_,(ae (bS (i:=4) RI.nd (ap AT hr rfl (aa (pv 0) (aa (pv 1) (aa (pv 2) (aa (pv 3) ab)))))) (ag (am (bx (ak aY (ax ar (pv 4) ai) aj) (av (aa aj (aa (aX eO (ax ar (pv 4) ai) (aK (pv 0) rfl)) ab))) (pv 4))))),?_⟩;refine⟨_,rfl,_,rfl,_,rfl,_,rfl,t,ch,u,a,.pl false n,rfl,ha,hu,.pl n,fun v H1 s1 h1=>?_⟩;obtain⟨p,z,k,rfl,hp,hz⟩:=id h1;cases hz;refine⟨_,rfl,p,_,_,_,rfl,rfl,NL.of hp,bf,rfl,_,rfl,aN zk ⟨_,rfl,?_⟩⟩;exact q _ _ s1 h1
end
inductive nu(vs:UG)(H:Hp)(Q:VK)(Z3:XK):Prop
 |mk(i:Int):vs=[.int i,.int 9]->0<=i->i<512->Q (.int i) H->nu vs H Q Z3
inductive PM(H:Hp)(v:V)(c:Nat):Option Ed->Prop
 |no (p l:Ux):v=.ref p->H p=some (.tup [.int (c:Int),.ref l])->H l=some (.tup [])->PM H v c none
 |one (p l q:Ux) (u:V) (e:Ed):v=.ref p->H p=some (.tup [.int (c:Int),.ref l])->H l=some (.tup [.ref q])->H q=some (.tup [u,.int 1])->Py H u e->PM H v c (some e)
def PM.same{H H':Hp}{v:V}{c:Nat}{o:Option Ed}(h:PM H v c o)(s:NJ H H'):PM H' v c o:=by
 cases h with
 |no p l a b d=>exact .no p l a (s _ _ b) (s _ _ d)
 |one p l q u e a b d f k=>exact .one p l q u e a (s _ _ b) (s _ _ d) (s _ _ f) (k.same s)
inductive DG(vs:UG)(H:Hp)(Q:VK)(Z3:XK):Prop
 |mk(v u:V)(n c:Nat):vs=[v,u,.int 1,.int 9]->c<512->PM H v 0 (some (.pl false n))->PM H u c none->(∀x H',NJ H H'->PM H' x c (some (.pl false n))->Q x H')->DG vs H Q Z3
section
variable{P:Uz}{w:UA}{K:ZF}{mg:Str->Option Uw}{base:Heap}{C fi aS aE aF aO:Ux}{t1 t2 t3 t4 t5 tM:Tok}
def DH:al ["number",SV] ["number",SV] (ah yg):=bH zk
def AC(F:N1 K "rest_of" "rest_of" yg f fd):NN P w K mg base br 1 f fd ["number",SV] nu:=by
 have ZZ:=DH
 walk_at "o"
 ·obtain⟨i,rfl,h0,h1,q⟩:=h;refine⟨_,(ag (am (aX eO (pv 0) (aX lX ai (pv 1))))),?_⟩;refine⟨_,rfl,_,rfl,_,_,rfl,rfl,⟨zd,zd,zd⟩,_,_,rfl,rfl,?_,?_⟩
  ·show(0:Int)<1*2^(9:Int).toNat;decide
  ·have e:i%(1*2^(9:Int).toNat)=i:=Int.emod_eq_of_lt h0 h1;rw[e];exact q
def QH:al [Th,S4,"times",SV,"parts",Us,T8,"rests"] [Th,S4,"times",SV] (ah kC):=bH zk
def F9:([Us,"parts",SV]:UD).Nodup:=by decide +kernel
def DI:(["part"]:UD).Nodup:=by decide +kernel
def Ga(F:N1 K "with_times" "with_times" kC f fd)(B:Bl mg)(B3:BE mg)(hs:mg "sorted"=none)(RO:Fn P w K mg base "rest_of" 1 ["number",SV] nu):NN P w K mg base br 2 f fd [Th,S4,"times",SV] DG:=by
 have ZZ:=QH
 walk_at "o"
 ·obtain⟨v,u,n,c,rfl,hc,hv,hu',q⟩:=h;have hu:=lD hr;refine⟨_,(ae (iA (i:=4) QH.nd rfl (Or.inr rfl) (aV (eY hr) (by rfl) B3.dict dI (aa (ax ar (pv 0) ai) ab))) (ae (cv f_ rfl (cK (ax ar (pv 1) ai)) (bT rfl (aq (bM (i:=5) QH.nd) (aq (bM (i:=6) QH.nd) bi))) (ag aU)) (ae (dh (i:=7) QH.nd rfl rfl (N':=[Us,"parts",SV]) (ix:=[none,some 4,some 3]) (sc0:=ah kC) (N:=[Th,S4,"times",SV,"parts",Us,T8,"rests"]) rfl zk (bV (au (pN hr) (by rfl) hs PyProof.Rows.boot_sorted (aa (pv 4) ab))) (fun _ _ _ _ _=>(bM (i:=0) F9)) (fun _ _ _ _ _=>bz) (fun _ _ _ _ _=>(av (aa (pv 0) (aa (ap RO hr rfl (aa (g6 hu (pv 1) (pv 0)) (aa (pv 2) ab))) ab))))) (ag (am (av (aa (ap RO hr rfl (aa (aX cA (ax ar (pv 0) ai) (aX fq (pv 2) (ax ar (pv 1) ai))) (aa (pv 3) ab))) (aa (aV bh (by rfl) B.tuple aZ (aa (cI (N':=["part"]) (ix:=[none]) (sc0:=ah kC) (N:=[Th,S4,"times",SV,"parts",Us,T8,"rests"]) rfl zk (bV (pv 7)) (fun _ _ _ _ _=>(bM (i:=0) DI)) (fun _ _ _ _ _=>(qo (ak fb (ax (ia (K:=K) rfl) (pv 0) ai) ai))) (fun _ _ _ _ _=>(pv 0))) ab)) ab)))))))),?_⟩;cases hv with
  |one p l q1 u1 e1 hv1 hp hl hq WR=>
  cases hu' with
  |no p2 l2 Zi UT V'=>
  subst hv1 Zi;obtain⟨pa,z,k,rfl,hpa,hz⟩:=WR;cases hz;refine⟨_,rfl,p,_,_,_,rfl,rfl,NL.of hp,cn,⟨true,l,_,rfl,hl,fun d nd=>?_⟩⟩;have s1:=af (o:=.dT []) nd;have e1:az H d (.dT []) d=some (.dT []):=ac;refine⟨.dT [],_,.inr rfl,.cons (s1 _ _ hq) (Oh.t (k:=[.inr SU,.inl (n:Int)]) e1 (s1 _ _ hpa) zd) .nil,?_⟩;have s2:NJ H (az (az H d (.dT [])) d (.dT (er [] [.inr SU,.inl (n:Int)] (.int 1)))):=by rw[zn];exact af nd
  have e2:az (az H d (.dT [])) d (.dT (er [] [.inr SU,.inl (n:Int)] (.int 1))) d=some (.dT [([.inr SU,.inl (n:Int)],.int 1)]):=ac;generalize az (az H d (.dT [])) d _=H2 at*;clear s1 e1;refine⟨_,rfl,p2,_,_,_,rfl,rfl,NL.of (s2 _ _ UT),cn,l2,rfl,⟨_,NL.of (s2 _ _ V')⟩,?_⟩;refine dJ (K:=K) (a:=l2) (xs:=[]) (fun i σ H'=>σ=[some (.ref p),some (.ref p2),some (.int 1),some (.int 9),some (.ref d),none,none,none]/\H'=H2) ⟨rfl,rfl⟩ (fun i σ H' _⟨_,e⟩=>by rw[e];exact NL.of (s2 _ _ V')) (fun i x σ H' hx=>by cases hx) ?_;rintro σ H' ⟨rfl,rfl⟩;have z1:1<=sizeLine:=by decide
  refine⟨_,rfl,⟨d,_,_,rfl,e2,fun ls c0 Xq hc0=>?_⟩⟩;have s3:=af (o:=.lst [.ref c0]) Xq;have e3:az H' ls (.lst [.ref c0]) ls=some (.lst [.ref c0]):=ac;have hc3:=s3 _ _ hc0;have ed3:=s3 _ _ e2;generalize az H' ls (.lst [.ref c0])=H3 at*;have gd:∀{H4:Hp},NJ H3 H4->N9 H4 d (.ref c0) (some (.int 1)):=fun{H4}s4=>by
   have:=N9.t (k:=[.inr SU,.inl (n:Int)]) (s4 _ _ ed3) (s4 _ _ hc3);rw[show eU [(([.inr SU,.inl (n:Int)]:List dm),V.int 1)] [.inr SU,.inl (n:Int)]=some (.int 1)from fB rfl]at this;exact this
  refine⟨ls,rfl,⟨_,NQ.of e3⟩,?_⟩;refine db (K:=K) (a:=ls) (xs:=[.ref c0]) (fun i ys H'=>NJ H3 H'/\((i=0/\ys=[])\/i=1/\∃q3,ys=[.ref q3]/\H' q3=some (.tup [.ref c0,.int 1]))) ⟨NJ.refl _,.inl ⟨rfl,rfl⟩⟩ (fun i ys H' hi⟨s',e⟩=>⟨NQ.of (s' _ _ e3),by rcases e with⟨_,rfl⟩|⟨_,_,rfl,_⟩;exact JN _;exact z1⟩) ?_ ?_
  ·rintro i x ys H4 hx ⟨s4,h4⟩;cases i with
   |succ i=>cases hx
   |zero=>
   cases hx;rcases h4 with⟨_,rfl⟩|⟨z,_⟩
   ·refine⟨⟨rfl,rfl,trivial⟩,bC ?_⟩;refine⟨_,rfl,_,rfl,_,rfl,d,_,rfl,gd s4,_,rfl,1,rfl,zd,zd,N0,fun q3 nq3=>?_⟩;exact Nx.mk u_ ⟨s4.trans (af nq3),.inr ⟨rfl,q3,rfl,ac⟩⟩
   ·cases z
  ·rintro ys H4 ⟨s4,h4⟩ lr XO;rcases h4 with⟨z,_⟩|⟨_,q3,rfl,hq3⟩
   ·cases z
   have s5:=af (o:=.lst [.ref q3]) XO;have e5:az H4 lr (.lst [.ref q3]) lr=some (.lst [.ref q3]):=ac;have hq5:=s5 _ _ hq3;generalize az H4 lr (.lst [.ref q3])=H5 at*;have t5:NJ H H5:=((s2.trans s3).trans s4).trans s5;refine⟨_,rfl,p,_,_,_,rfl,rfl,NL.of (t5 _ _ hp),bf,_,rfl,_,rfl,p2,_,_,_,rfl,rfl,NL.of (t5 _ _ UT),bf,1,(c:Int),rfl,rfl,?_,0,_,rfl,rfl,_,rfl,(0+1*c:Int),rfl,zo,zo,_,rfl,lr,rfl,⟨_,NQ.of e5⟩,?_⟩
   ·exact .inl ⟨zd,zd⟩
   refine db (K:=K) (a:=lr) (xs:=[.ref q3]) (fun i ys H'=>NJ H5 H'/\((i=0/\ys=[])\/i=1/\ys=[.ref q3])) ⟨NJ.refl _,.inl ⟨rfl,rfl⟩⟩ (fun i ys H' hi⟨s',e⟩=>⟨NQ.of (s' _ _ e5),by rcases e with⟨_,rfl⟩|⟨_,rfl⟩;exact JN _;exact z1⟩) ?_ ?_
   ·rintro i x ys H6 hx ⟨s6,h6⟩;cases i with
    |succ i=>cases hx
    |zero=>
    cases hx;rcases h6 with⟨_,rfl⟩|⟨z,_⟩
    ·refine⟨trivial,?_⟩;refine⟨_,rfl,q3,_,_,_,rfl,rfl,NL.of (s6 _ _ hq5),cn,rfl,_,rfl,bj zk ⟨_,rfl,?_⟩⟩;exact Nx.mk u_ ⟨s6,.inr ⟨rfl,rfl⟩⟩
    ·cases z
   ·rintro ys H6 ⟨s6,h6⟩ l7 n7;rcases h6 with⟨z,_⟩|⟨_,rfl⟩
    ·cases z
    have s7:=af (o:=.lst [.ref q3]) n7;have e7:az H6 l7 (.lst [.ref q3]) l7=some (.lst [.ref q3]):=ac;generalize az H6 l7 (.lst [.ref q3])=H7 at*;refine⟨l7,_,rfl,.inl ⟨NQ.of e7,fun t8 n8=>⟨N0,fun p9 n9=>?_⟩⟩⟩;have s8:=af (o:=.tup [.ref q3]) n8;have e8:az H7 t8 (.tup [.ref q3]) t8=some (.tup [.ref q3]):=ac;generalize az H7 t8 (.tup [.ref q3])=H8 at*;have s9:=af (o:=.tup [.int (0+1*c),.ref t8]) n9;have e9:az H8 p9 (.tup [.int (0+1*c),.ref t8]) p9=some (.tup [.int (c:Int),.ref t8]):=by rw[ac];congr 4;lia
    generalize az H8 p9 (.tup [.int (0+1*c),.ref t8])=H9 at*;have t39:NJ H3 H9:=(((s4.trans s5).trans s6).trans s7).trans (s8.trans s9);exact q _ _ ((s2.trans s3).trans t39) (.one p9 t8 q3 (.ref c0) (.pl false n) rfl e9 (s9 _ _ e8) (((s6.trans s7).trans (s8.trans s9)) _ _ hq5) ⟨c0,_,_,rfl,t39 _ _ hc3,rfl⟩)
end
abbrev DJ:Stmt:=top 59
abbrev yh:Stmt:=top 58
abbrev rq:Stmt:=top 60
inductive Fe:Nat->Ed->Nat->Option Ed->Prop
 |pl (m n:Nat):Fe m (.pl false n) 0 (some (.pl false n))
 |num (m n:Nat):Fe m (.num n) n none
 |plus (m n c:Nat):c<512->Fe (m+1) (.two "+" (.pl false n) (.num c)) c (some (.pl false n))
inductive tw(C:Ux)(m:Nat)(vs:UG)(H:Hp)(Q:VK):Prop
 |mk(t ch u:V)(a:Ux)(D:Fm)(e:Ed)(c:Nat)(o:Option Ed):vs=[t,ch,.ref a,u]->Op C H t D->D.width=9->H a=some (.tup [])->Od H e u->Fe m e c o->(∀v H',NJ H H'->PM H' v c o->Q v H')->tw C m vs H Q
def ij(C:Ux):Nat->Sp
 |0=>hZ
 |m+1=>fun vs H Q _=>tw C m vs H Q
inductive yi(vs:UG)(H:Hp)(Q:VK)(Z3:XK):Prop
 |mk(t ch u:V)(a:Ux)(e:Ed):vs=[t,ch,.ref a,u]->H a=some (.tup [])->Od H e u->(∃b n,e=if b=true then .mk false n else .pl false n)->(∀v H',NJ H H'->Py H' v e->Q v H')->yi vs H Q Z3
section
variable{P:Uz}{w:UA}{K:ZF}{mg:Str->Option Uw}{base:Heap}{C fi aS aE aF aO:Ux}{t1 t2 t3 t4 t5 tM:Tok}
def Pr:al [SQ,SW,SX,Uu,Th,Us] [SQ,SW,SX,Uu] (ah yf):=bH zk
def pO(F:N1 K "form_of" "form_of" yf f fd)(T:Tc K C)(hm:2<=n)(AT:Fn P w K mg base "atom_of" 2 [SQ,SW,SX,Uu] OW)(WT:Fn P w K mg base "with_times" 2 [Th,S4,"times",SV] DG)(FO:Fn P w K mg base "form_of" n [SQ,SW,SX,Uu] (ij C m)):NN P w K mg base br (n+1) f fd [SQ,SW,SX,Uu] (ij C (m+1)):=by
 have ZZ:=Pr
 walk_at "o"
 ·obtain⟨t,ch,u,a,D,e,c,o,rfl,hT,hw,ha,hu,he,q⟩:=h;have K6:NZ 2 _:=hr.mono hm;refine⟨_,(ae (aM (ak bX (ax ar (pv 3) ai) (av (aa aj (aa aj ab))) rfl) (ae (bS (i:=4) Pr.nd (ap FO hr rfl (aa (pv 0) (aa (pv 1) (aa (pv 2) (aa (ax ar (pv 3) ai) ab)))))) (ag (am (ap WT K6 rfl (aa (pv 4) (aa (ap FO hr rfl (aa (pv 0) (aa (pv 1) (aa (pv 2) (aa (ax ar (pv 3) ai) ab))))) (aa (bx (ak aY (ax ar (pv 3) ai) aj) ai (Fb Ci ai)) (aa (aK (pv 0) rfl) ab)))))))) aw) (ae (aM (ak aY (ax ar (pv 3) ai) aj) (ag aU) aw) (ae (bS (i:=5) Pr.nd (ap AT K6 rfl (aa (pv 0) (aa (pv 1) (aa (pv 2) (aa (pv 3) ab)))))) (ag (am (bx (ak aY (ax ar (pv 5) ai) aj) (av (aa (ax ar (pv 5) ai) (aa (av ab) ab))) (av (aa ai (aa (av (aa (av (aa (pv 5) (aa ai ab))) ab)) ab))))))))),?_⟩;cases he with
  |plus m n c hc=>
   obtain⟨p,u1,u2,rfl,hp,h1,h2⟩:=hu;refine⟨_,rfl,p,_,_,_,rfl,rfl,NL.of hp,bf,N0,fun t1 n1=>?_⟩;have s1:=af (o:=.tup [.str "+",.str "-"]) n1;refine⟨t1,_,rfl,.inr (NL.of ac),rfl,bu ["+","-"],_,rfl,bj zk ?_⟩;generalize az H t1 (.tup [.str "+",.str "-"])=H1 at*;have Vn:=s1 _ _ hp;refine⟨_,rfl,_,rfl,_,rfl,_,rfl,p,_,_,_,rfl,rfl,NL.of Vn,cn,t,ch,u1,a,D,.pl false n,_,_,rfl,hT.same s1,hw,s1 _ _ ha,Od.kt (ay s1) h1,.pl _ n,fun v1 H2 s2 f1=>?_⟩;have UX:=s1.trans s2;refine⟨_,rfl,_,rfl,_,rfl,_,rfl,_,rfl,p,_,_,_,rfl,rfl,NL.of (UX _ _ hp),ic,t,ch,u2,a,D,.num c,_,_,rfl,hT.same UX,hw,UX _ _ ha,Od.kt (ay UX) h2,.num _ c,fun v2 H3 s3 f2=>?_⟩;have Vj:=UX.trans s3;refine⟨_,rfl,p,_,_,_,rfl,rfl,NL.of (Vj _ _ hp),bf,rfl,_,rfl,bj zk ?_⟩;obtain⟨a0,dx,pp,pm,pn,pk,us,rfl,ho,_⟩:=id (hT.same Vj);refine⟨_,rfl,a0,C,dx,_,_,rfl,ho,T.cl,T.na SV zk,rfl,?_⟩;rw[hw];exact⟨v1,v2,n,c,rfl,hc,f1.same s3,f2,fun x H4 s4 f4=>q _ _ (Vj.trans s4) f4⟩
  |pl m n=>
   obtain⟨p,u',rfl,hp,VI⟩:=id hu;refine⟨_,rfl,p,_,_,_,rfl,rfl,NL.of hp,bf,N0,fun t1 n1=>?_⟩;have s1:=af (o:=.tup [.str "+",.str "-"]) n1;refine⟨t1,_,rfl,.inr (NL.of ac),rfl,bu ["+","-"],_,rfl,aN zk ?_⟩;generalize az H t1 (.tup [.str "+",.str "-"])=H1 at*;refine⟨_,rfl,p,_,_,_,rfl,rfl,NL.of (s1 _ _ hp),bf,rfl,_,rfl,aN zk ?_⟩;refine⟨_,rfl,_,rfl,_,rfl,_,rfl,t,ch,.ref p,a,.pl false n,rfl,s1 _ _ ha,Od.kt (ay s1) hu,.pl n,fun v H2 s2 h2=>?_⟩;have UX:=s1.trans s2;obtain⟨p2,z,k,rfl,UT,hz⟩:=id h2;cases hz;refine⟨_,rfl,p2,_,_,_,rfl,rfl,NL.of UT,bf,rfl,_,rfl,aN zk ?_⟩;refine⟨_,rfl,N0,fun p3 n3=>⟨N0,fun p4 n4=>⟨N0,fun p5 n5=>?_⟩⟩⟩;have s3:=af (o:=.tup [.ref p2,.int 1]) n3;have e3:az H2 p3 (.tup [.ref p2,.int 1]) p3=some (.tup [.ref p2,.int 1]):=ac;generalize az H2 p3 (.tup [.ref p2,.int 1])=H3 at*;have s4:=af (o:=.tup [.ref p3]) n4;have e4:az H3 p4 (.tup [.ref p3]) p4=some (.tup [.ref p3]):=ac;generalize az H3 p4 (.tup [.ref p3])=H4 at*;have s5:=af (o:=.tup [.int 0,.ref p4]) n5;have e5:az H4 p5 (.tup [.int 0,.ref p4]) p5=some (.tup [.int 0,.ref p4]):=ac;generalize az H4 p5 (.tup [.int 0,.ref p4])=H5 at*;have X8:=(s3.trans s4).trans s5;exact q _ _ (UX.trans X8) (.one p5 p4 p3 (.ref p2) _ rfl e5 (s5 _ _ e4) ((s4.trans s5) _ _ e3) (h2.same X8))
  |num m n=>
   obtain⟨p,rfl,hp⟩:=id hu;refine⟨_,rfl,p,_,_,_,rfl,rfl,NL.of hp,bf,N0,fun t1 n1=>?_⟩;have s1:=af (o:=.tup [.str "+",.str "-"]) n1;refine⟨t1,_,rfl,.inr (NL.of ac),rfl,bu ["+","-"],_,rfl,aN zk ?_⟩;generalize az H t1 (.tup [.str "+",.str "-"])=H1 at*;refine⟨_,rfl,p,_,_,_,rfl,rfl,NL.of (s1 _ _ hp),bf,rfl,_,rfl,aN zk ?_⟩;refine⟨_,rfl,_,rfl,_,rfl,_,rfl,t,ch,.ref p,a,.num c,rfl,s1 _ _ ha,Od.kt (ay s1) hu,.num c,fun v H2 s2 h2=>?_⟩;have UX:=s1.trans s2;obtain⟨p2,z,k,rfl,UT,hz⟩:=id h2;cases hz;refine⟨_,rfl,p2,_,_,_,rfl,rfl,NL.of UT,bf,rfl,_,rfl,bj zk ?_⟩;refine⟨_,rfl,p2,_,_,_,rfl,rfl,NL.of UT,cn,N0,fun p4 n4=>⟨N0,fun p5 n5=>?_⟩⟩;have s4:=af (o:=.tup []) n4;have e4:az H2 p4 (.tup []) p4=some (.tup []):=ac;generalize az H2 p4 (.tup [])=H4 at*;have s5:=af (o:=.tup [.int (c:Int),.ref p4]) n5;have e5:az H4 p5 (.tup [.int (c:Int),.ref p4]) p5=some (.tup [.int (c:Int),.ref p4]):=ac;generalize az H4 p5 (.tup [.int (c:Int),.ref p4])=H5 at*;exact q _ _ (UX.trans (s4.trans s5)) (.no p5 p4 rfl e5 (s5 _ _ e4))
def Q2:al [SQ,SW,SX,Uu,Us] [SQ,SW,SX,Uu] (ah DJ):=bH zk
def DK(F:N1 K "bit_of" "bit_of" DJ f fd)(AT:Fn P w K mg base "atom_of" 2 [SQ,SW,SX,Uu] OW)(DE:Fn P w K mg base "decided" 1 [SX,Uc] O6):NN P w K mg base br 3 f fd [SQ,SW,SX,Uu] yi:=by
 have ZZ:=Q2
 walk_at "o"
 ·obtain⟨t,ch,u,a,e,rfl,ha,hu,⟨b,n,he⟩,q⟩:=h;refine⟨_,(ae (bS (i:=4) Q2.nd (ap AT hr rfl (aa (pv 0) (aa (pv 1) (aa (pv 2) (aa (pv 3) ab)))))) (ae (aM (ak aY (ax ar (pv 4) ai) aj) (ag aU) aw) (ag (am (bx (PW.pt (cr (ak aY (ax ar (pv 4) ai) aj) (cb (ak fO (ap DE hr.m rfl (aa (pv 2) (aa (pv 4) ab))) cq)))) (av (aa aj (aa ai ab))) (pv 4)))))),?_⟩;refine⟨_,rfl,_,rfl,_,rfl,_,rfl,t,ch,u,a,e,rfl,ha,hu,by subst he;cases b;exact .pl n;exact .mk n,fun v H1 s1 h1=>?_⟩;obtain⟨p2,z,k,rfl,UT,hz⟩:=id h1;cases b with
  |true=>
   subst he;cases hz;refine⟨_,rfl,p2,_,_,_,rfl,rfl,NL.of UT,bf,rfl,_,rfl,aN zk ?_⟩;refine⟨_,rfl,p2,_,_,_,rfl,rfl,NL.of UT,bf,rfl,_,rfl,aN zk (bJ ⟨_,rfl,?_⟩)⟩;exact q _ _ s1 h1
  |false=>
   subst he;cases hz;refine⟨_,rfl,p2,_,_,_,rfl,rfl,NL.of UT,bf,rfl,_,rfl,aN zk ?_⟩;refine⟨_,rfl,p2,_,_,_,rfl,rfl,NL.of UT,bf,rfl,_,rfl,bj zk ?_⟩;refine⟨_,rfl,_,rfl,a,p2,_,_,rfl,s1 _ _ ha,UT,fun H2 s2=>?_⟩;refine⟨true,rfl,.inl rfl,_,rfl,bJ ⟨_,rfl,?_⟩⟩;exact q _ _ (s1.trans s2) (h1.same s2)
end
def HZ:Sd->Prop
 |.pl b _ _=>b=false
 |.mk b _ _=>b=false
 |.cell a e=>∃k n,a=.pl false k/\e=.pl false n
def fP(b:Bool)(n:Nat)(G':Ed):Sd->Ed
 |.pl _ k e=>if b=false/\k=n then e else G'
 |.mk _ k e=>if b=true/\k=n then e else G'
 |.cell _ _=>G'
def BM(b:Bool):Str:=if b=true then S2 else SU
def cJ(b:Bool)(n:Nat)(S:List Sd):Ed:=S.foldl (fP b n) (if b=true then .mk false n else .pl false n)
inductive rs(vs:UG)(H:Hp)(Q:VK)(Z3:XK):Prop
 |mk(ch:V)(q:Ux)(us:UG)(S:List Sd)(b:Bool)(n:Nat):vs=[ch,.ref q,.str (BM b),.int (n:Int)]->H q=some (.tup us)->Paired (fun v g=>OQ H g v) us S->(∀g∈S,HZ g)->(∀v H',NJ H H'->Od H' (cJ b n S) v->Q v H')->rs vs H Q Z3
inductive Ic(H:Hp)(ch:V)(q:Ux)(st:Str)(n:Nat)(x:Ed)(σ:St)(H':Hp):Prop
 |mk(v:V)(g:Option V):σ=[some ch,some (.ref q),some (.str st),some (.int (n:Int)),some v,g]->NJ H H'->Od H' x v->Ic H ch q st n x σ H'
variable{b:Bool}{G' e:Ed}
def AE{n k:Nat}:fP true n G' (.pl b k e)=G':=by simp[fP]
def AF{n k:Nat}:fP false n G' (.mk b k e)=G':=by simp[fP]
variable{n:Nat}
def rB{S:List Sd}{i:Nat}{g:Sd}(h:S[i]?=some g):cJ b n (S.take (i+1))=fP b n (cJ b n (S.take i)) g:=by
 unfold cJ;rw[Kh,h,List.foldl_append];rfl
def vj:List Sd->Option (Nat×Nat)
 |[]=>none
 |.cell (.pl _ k) (.pl _ n)::_=>some (k,n)
 |_::r=>vj r
inductive Rz(H:Hp)(v:V):Option (Nat×Nat)->Prop
 |no:v=.non->Rz H v none
 |one (p:Ux) (x y:V) (k n:Nat):v=.ref p->H p=some (.tup [x,y])->Py H x (.pl false k)->PM H y 0 (some (.pl false n))->Rz H v (some (k,n))
inductive nv(C:Ux)(vs:UG)(H:Hp)(Q:VK)(Z3:XK):Prop
 |mk(t ch:V)(a q:Ux)(D:Fm)(us:UG)(S:List Sd):vs=[t,ch,.ref a,.ref q]->Op C H t D->D.width=9->H a=some (.tup [])->H q=some (.tup us)->Paired (fun v g=>OQ H g v) us S->(∀g∈S,HZ g)->(∀v H',NJ H H'->Rz H' v (vj S)->Q v H')->nv C vs H Q Z3
variable{v:V}{H:Hp}{K:ZF}
def Py.pl(h:Py H v (.pl false n)):Dt K H v (.tuple [.str SU,.int (n:Int)]):=by
 obtain⟨p,s,n,rfl,hp,he⟩:=h;cases he;exact .tup (NL.of hp) (.cons (.str _) (.cons (.int _) .nil))
def Py.mk'(h:Py H v (.mk false n)):Dt K H v (.tuple [.str S2,.int (n:Int)]):=by
 obtain⟨p,s,n,rfl,hp,he⟩:=h;cases he;exact .tup (NL.of hp) (.cons (.str _) (.cons (.int _) .nil))
def PM.pl{c n:Nat}(h:PM H v c (some (.pl false n))):Dt K H v (.tuple [.int (c:Int),.tuple [.tuple [.tuple [.str SU,.int (n:Int)],.int 1]]]):=by
 cases h with
 |one p l q u e a b d f k=>
  subst a;exact .tup (NL.of b) (.cons (.int _) (.cons (.tup (NL.of d) (.cons (.tup (NL.of f) (.cons k.pl (.cons (.int _) .nil))) .nil)) .nil))
inductive Jd(H:Hp)(t ch:V)(a q:Ux)(R:Prop)(σ:St)(H':Hp):Prop
 |mk(v1 v2 v3 v4 v5:Option V):σ=[some t,some ch,some (.ref a),some (.ref q),v1,v2,v3,v4,v5]->NJ H H'->R->Jd H t ch a q R σ H'
variable{P:Uz}{w:UA}{K:ZF}{mg:Str->Option Uw}{base:Heap}{C fi aS aE aF aO:Ux}{t1 t2 t3 t4 t5 tM:Tok}
def Pe:al [SW,TB,Tg,"number",Uu,Td] [SW,TB,Tg,"number"] (ah yh):=bH zk
def AG(F:N1 K "last_given" "last_given" yh f fd)(SE:Fn P w K mg base "selected" 1 [SW,Tu] Qg):NN P w K mg base br 2 f fd [SW,TB,Tg,"number"] rs:=by
 have ZZ:=Pe
 walk_at "o"
 ·obtain⟨ch,q0,us,S,b,n,rfl,hq,hp,hS,q⟩:=h;refine⟨_,(ae (bS (i:=4) Pe.nd (av (aa (pv 2) (aa (av (aa aj (aa (pv 3) ab))) ab)))) (ae (cv f_ rfl (cK (pv 1)) (bM (i:=5) Pe.nd) (ag (aM (PW.pt (cr (ak aY (ax ar (pv 5) ai) (pv 2)) (cb (ak aY (ap SE hr rfl (aa (pv 0) (aa (ax ar (pv 5) ai) ab))) (pv 3))))) (ag (bS (i:=4) Pe.nd (ax ar (pv 5) ai))) aw))) (ag (am (pv 4))))),?_⟩;refine⟨_,rfl,_,rfl,N0,fun p1 n1=>⟨N0,fun p2 n2=>?_⟩⟩;have s1:=af (o:=.tup [.str "is",.int (n:Int)]) n1;have e1:az H p1 (.tup [.str "is",.int (n:Int)]) p1=some (.tup [.str "is",.int (n:Int)]):=ac;generalize az H p1 (.tup [.str "is",.int (n:Int)])=H1 at*;have s2:=af (o:=.tup [.str (BM b),.ref p1]) n2;have e2:az H1 p2 (.tup [.str (BM b),.ref p1]) p2=some (.tup [.str (BM b),.ref p1]):=ac;generalize az H1 p2 (.tup [.str (BM b),.ref p1])=H2 at*;have UX:=s1.trans s2;have hl:=hp.length;refine⟨_,rfl,q0,rfl,⟨_,NL.of (UX _ _ hq)⟩,?_⟩;refine dJ (K:=K) (a:=q0) (xs:=us) (fun i σ H'=>Ic H ch q0 (BM b) n (cJ b n (S.take i)) σ H') ⟨_,none,rfl,UX,?_⟩ (fun i σ H' _⟨_,_,_,s',_⟩=>NL.of (s' _ _ hq)) ?_ ?_
  ·cases b
   ·exact⟨p2,_,rfl,e2,⟨p1,rfl,s2 _ _ e1⟩⟩
   ·exact⟨p2,_,rfl,e2,⟨p1,rfl,s2 _ _ e1⟩⟩
  ·rintro i x σ H3 hx ⟨v,g0,rfl,s3,h3⟩;obtain⟨gd,Wy,hv⟩:=cM hp hx;have hF:=hS gd (JP Wy);have Ws:=OQ.kt (ay s3) hv;have Xo:∀{v':V}{H4:Hp}{g1:Option V},NJ H3 H4->Od H4 (fP b n (cJ b n (S.take i)) gd) v'->Ic H ch q0 (BM b) n (cJ b n (S.take (i+1))) [some ch,some (.ref q0),some (.str (BM b)),some (.int (n:Int)),some v',g1] H4:=fun{v' H4 g1}s4 h4=>⟨v',g1,rfl,s3.trans s4,by rw[rB Wy];exact h4⟩;cases gd with
   |cell a e=>
    obtain⟨pg,u,t,rfl,Vg,_⟩:=Ws;refine⟨_,rfl,pg,_,_,_,rfl,rfl,NL.of Vg,bf,_,rfl,rfl,_,rfl,aN (by cases b<;>decide +kernel) ?_⟩;exact Xo (NJ.refl _) h3
   |pl b0 k e=>
    have hb0:b0=false:=hF;subst hb0;obtain⟨pg,u,t,rfl,Vg,VI,het⟩:=Ws;cases b with
    |true=>
     refine⟨_,rfl,pg,_,_,_,rfl,rfl,NL.of Vg,bf,_,rfl,rfl,_,rfl,aN zk ?_⟩;exact Xo (NJ.refl _) (by rw[AE];exact h3)
    |false=>
     refine⟨_,rfl,pg,_,_,_,rfl,rfl,NL.of Vg,bf,_,rfl,rfl,_,rfl,bj zk ?_⟩;refine⟨_,rfl,_,rfl,pg,_,_,_,rfl,rfl,NL.of Vg,cn,ch,u,k,rfl,VI,_,rfl,rfl,_,rfl,eD (fun hk=>?_) (fun hk=>?_)⟩
     ·have hkn:k=n:=by have:=V.int.inj (j_ hk);lia
      refine⟨_,rfl,pg,_,_,_,rfl,rfl,NL.of Vg,ic,?_⟩;exact Xo (NJ.refl _) (by rw[show fP false n (cJ false n (S.take i)) (.pl false k e)=e from g_ ⟨rfl,hkn⟩];exact het)
     ·exact Xo (NJ.refl _) (by rw[show fP false n (cJ false n (S.take i)) (.pl false k e)=cJ false n (S.take i)from e_ (by rintro⟨_,z⟩;exact hk (b_ (by rw[z])))];exact h3)
   |mk b0 k e=>
    have hb0:b0=false:=hF;subst hb0;obtain⟨pg,u,t,rfl,Vg,VI,het⟩:=Ws;cases b with
    |false=>
     refine⟨_,rfl,pg,_,_,_,rfl,rfl,NL.of Vg,bf,_,rfl,rfl,_,rfl,aN zk ?_⟩;exact Xo (NJ.refl _) (by rw[AF];exact h3)
    |true=>
     refine⟨_,rfl,pg,_,_,_,rfl,rfl,NL.of Vg,bf,_,rfl,rfl,_,rfl,bj zk ?_⟩;refine⟨_,rfl,_,rfl,pg,_,_,_,rfl,rfl,NL.of Vg,cn,ch,u,k,rfl,VI,_,rfl,rfl,_,rfl,eD (fun hk=>?_) (fun hk=>?_)⟩
     ·have hkn:k=n:=by have:=V.int.inj (j_ hk);lia
      refine⟨_,rfl,pg,_,_,_,rfl,rfl,NL.of Vg,ic,?_⟩;exact Xo (NJ.refl _) (by rw[show fP true n (cJ true n (S.take i)) (.mk false k e)=e from g_ ⟨rfl,hkn⟩];exact het)
     ·exact Xo (NJ.refl _) (by rw[show fP true n (cJ true n (S.take i)) (.mk false k e)=cJ true n (S.take i)from e_ (by rintro⟨_,z⟩;exact hk (b_ (by rw[z])))];exact h3)
  ·rintro σ H3 ⟨v,g0,rfl,s3,h3⟩;rw[hl,Kg]at h3;exact⟨_,rfl,q _ _ s3 h3⟩
def Qo:al [SQ,SW,SX,TB,Tg,Up,Uu,T3,"form"] [SQ,SW,SX,TB] (ah rq):=bH zk
def yj(F:N1 K "cell_given" "cell_given" rq f fd)(AD:Fn P w K mg base "address_told" 3 [SQ,SW,SX,Uu] PP)(FO:Fn P w K mg base "form_of" 4 [SQ,SW,SX,Uu] (ij C 2)):NN P w K mg base br 5 f fd [SQ,SW,SX,TB] (nv C):=by
 have ZZ:=Qo
 walk_at "o"
 ·obtain⟨t,ch,a,q0,D,us,S,rfl,hT,hw,ha,hq,hp,hS,q⟩:=h;refine⟨_,(ae (cv f_ rfl (cK (pv 3)) (bT rfl (aq (bM (i:=4) Qo.nd) (aq (bM (i:=5) Qo.nd) (aq (bM (i:=6) Qo.nd) bi)))) (ag (aM (ak aY (pv 4) aj) (ae (bS (i:=7) Qo.nd (ap AD hr.m rfl (aa (pv 0) (aa (pv 1) (aa (pv 2) (aa (pv 5) ab)))))) (ae (bS (i:=8) Qo.nd (ap FO hr rfl (aa (pv 0) (aa (pv 1) (aa (pv 2) (aa (pv 6) ab)))))) (ag (am (bx (ak (Pd hr) (pv 8) (av (aa ai (aa (av (aa (av (aa (av (aa aj (aa (pv 7) ab))) (aa ai ab))) ab)) ab)))) cN (av (aa (pv 7) (aa (pv 8) ab)))))))) aw))) (ag (am cN))),?_⟩;have hl:=hp.length;refine⟨_,rfl,q0,rfl,⟨_,NL.of hq⟩,?_⟩;refine dJ (K:=K) (a:=q0) (xs:=us) (fun i σ H'=>Jd H t ch a q0 (vj S=vj (S.drop i)) σ H') ⟨none,none,none,none,none,rfl,NJ.refl _,rfl⟩ (fun i σ H' _⟨_,_,_,_,_,_,s',_⟩=>NL.of (s' _ _ hq)) ?_ ?_
  ·rintro i x σ H3 hx ⟨v1,v2,v3,v4,v5,rfl,s3,h3⟩;obtain⟨gd,Wy,hv⟩:=cM hp hx;have hF:=hS gd (JP Wy);have Ws:=OQ.kt (ay s3) hv;have hi:=(JA.mp Wy).1;have hdr:S.drop i=gd::S.drop (i+1):=by rw[Ka hi];congr 1;exact(JA.mp Wy).2
   rw[hdr]at h3;cases gd with
   |cell a1 e1=>
    obtain⟨k,n,rfl,rfl⟩:=hF;obtain⟨pg,u,y,rfl,Vg,hu,hy⟩:=Ws;refine⟨pg,_,rfl,NL.of Vg,rfl,_,_,rfl,_,_,rfl,_,_,rfl,rfl,?_⟩;refine⟨_,rfl,rfl,_,rfl,bj zk ?_⟩;refine⟨_,rfl,_,rfl,_,rfl,_,rfl,t,ch,u,a,k,rfl,s3 _ _ ha,hu,fun va H4 s4 h4=>?_⟩;have Wq:=s3.trans s4;refine⟨_,rfl,_,rfl,_,rfl,_,rfl,t,ch,y,a,D,.pl false n,_,_,rfl,hT.same Wq,hw,Wq _ _ ha,Od.kt (ay s4) hy,.pl _ n,fun vf H5 s5 h5=>?_⟩;have W9:=Wq.trans s5;refine⟨_,rfl,_,rfl,N0,fun p6 n6=>⟨N0,fun p7 n7=>⟨N0,fun p8 n8=>⟨N0,fun p9 n9=>?_⟩⟩⟩⟩;have s6:=af (o:=.tup [.str "cell",va]) n6;have e6:az H5 p6 (.tup [.str "cell",va]) p6=some (.tup [.str "cell",va]):=ac;generalize az H5 p6 (.tup [.str "cell",va])=H6 at*;have s7:=af (o:=.tup [.ref p6,.int 1]) n7;have e7:az H6 p7 (.tup [.ref p6,.int 1]) p7=some (.tup [.ref p6,.int 1]):=ac;generalize az H6 p7 (.tup [.ref p6,.int 1])=H7 at*;have s8:=af (o:=.tup [.ref p7]) n8;have e8:az H7 p8 (.tup [.ref p7]) p8=some (.tup [.ref p7]):=ac;generalize az H7 p8 (.tup [.ref p7])=H8 at*;have s9:=af (o:=.tup [.int 0,.ref p8]) n9;have e9:az H8 p9 (.tup [.int 0,.ref p8]) p9=some (.tup [.int 0,.ref p8]):=ac;generalize az H8 p9 (.tup [.int 0,.ref p8])=H9 at*;have X6:NJ H5 H9:=((s6.trans s7).trans s8).trans s9;have dA:=(h4.same (s5.trans X6)).pl (K:=K);have dF:=(h5.same X6).pl (K:=K);refine⟨_,_,dF,.tup (NL.of e9) (.cons (.int _) (.cons (.tup (NL.of (s9 _ _ e8)) (.cons (.tup (NL.of ((s8.trans s9) _ _ e7)) (.cons (.tup (NL.of (((s7.trans s8).trans s9) _ _ e6)) (.cons (.str _) (.cons dA .nil))) (.cons (.int _) .nil))) .nil)) .nil)),by simp[PyData.canLay0,PyData.canLayAll0];decide +kernel,by simp[PyData.canLay0,PyData.canLayAll0];decide +kernel,by simp[PyData.depth,PyData.depthAll],?_⟩;refine⟨_,rfl,aN (by simp[PyData.eqv,PyData.eqvAll]) ?_⟩;refine⟨_,rfl,_,rfl,N0,fun pA nA=>?_⟩;have sA:=af (o:=.tup [va,vf]) nA;have eA:az H9 pA (.tup [va,vf]) pA=some (.tup [va,vf]):=ac;generalize az H9 pA (.tup [va,vf])=HA at*;exact q _ _ (W9.trans (X6.trans sA)) (by rw[h3];exact .one pA va vf k n rfl eA (h4.same (s5.trans (X6.trans sA))) (h5.same (X6.trans sA)))
   |pl b0 k e=>
    obtain⟨pg,u,y,rfl,Vg,hu,hy⟩:=Ws;refine⟨pg,_,rfl,NL.of Vg,rfl,_,_,rfl,_,_,rfl,_,_,rfl,rfl,?_⟩;refine⟨_,rfl,rfl,_,rfl,aN zk ?_⟩;exact⟨_,_,_,_,_,rfl,s3,h3⟩
   |mk b0 k e=>
    obtain⟨pg,u,y,rfl,Vg,hu,hy⟩:=Ws;refine⟨pg,_,rfl,NL.of Vg,rfl,_,_,rfl,_,_,rfl,_,_,rfl,rfl,?_⟩;refine⟨_,rfl,rfl,_,rfl,aN zk ?_⟩;exact⟨_,_,_,_,_,rfl,s3,h3⟩
  ·rintro σ H3 ⟨v1,v2,v3,v4,v5,rfl,s3,h3⟩;rw[hl,Ss]at h3;exact q _ _ s3 (by rw[h3];exact .no rfl)
end L3
namespace L2
open PySem PySem.Spec PyProof.Rows
def pP:∀{kvs:List (Str×V)}{es:List DictEntry},Paired (oQ w) kvs es->kvs.lookup k=none->
  es.find? (fun e=>(strKind P w).is k e.key)=none
 |_,_,.nil,h=>rfl
 |(x,y)::r,e::es,.cons h t,hk=>by
  obtain⟨h1,⟨tk,h2⟩,h3⟩:=h;rw[J6]at hk;cases z:k==x with
  |true=>rw[z]at hk;cases hk
  |false=>
   rw[z]at hk;have hq:(strKind P w).is k e.key=false:=by
    rw[h2];show Value.isStrOf k (.str x tk)=false;cases q:Value.isStrOf k (Value.str x tk)with
    |false=>rfl
    |true=>
     obtain⟨t',e'⟩:=RQ q;injection e' with e1 _;rw[e1]at z;simp at z
   rw[Ku,hq];exact pP t hk
inductive yk(w:UA)(K:ZF)(x:V)(y:V)(H:Hp)(Q:VK):Prop
 |mk(a:Ux)(kvs:List (Str×V))(k:Str):y=.ref a->dc w K a kvs->x=.str k->(a==sysModules)=false->Q (.bl (kvs.lookup k).isSome) H->yk w K x y H Q
def yl:eM X (compareOp .In) (yk X.w X.K):=by
 intro K3 s σ H x y v u Q I rx ry h;obtain⟨a,kvs,k,rfl,⟨es,ep,hk,hp⟩,rfl,lo,q⟩:=h;cases ry;obtain⟨t,rfl⟩:=rx;have ho:=I.kIn a _ hk;have hm:s.heap.MapOf (strKind X.prog X.w) a (fun k=>findBy (strKind X.prog X.w).is es k):=⟨_,es,ep,ho,⟨rfl,rfl,rfl⟩,rfl,fun e V5=>gX hp e (by simpa using V5),fun _=>rfl⟩;refine wpAny_in_of (knd:=strKind X.prog X.w) (k:=k) (by show Value.isStrOf k (.str k t)=true;simp[Value.isStrOf]) lo hm ?_;have e:(findBy (strKind X.prog X.w).is es k).isSome=(kvs.lookup k).isSome:=by
  unfold findBy;rw[<-Sl,KY];cases hl:kvs.lookup k with
  |none=>rw[pP (P:=X.prog) hp hl];rfl
  |some z=>
   obtain⟨e,he,_⟩:=gE (P:=X.prog) hp hl;rw[he];rfl
 rw[e];exact⟨.bl (kvs.lookup k).isSome,H,I.tok _,rfl,q⟩
end L2
namespace L3
open PySem L2
abbrev rC:Stmt:=top 57
def kW:Ee->PyData
 |.w0 s=>.tuple [.str s]
 |.fault z=>.tuple [.str S3,.str z]
 |.go s j=>.tuple [.str s,.int (j:Int)]
def Gb:Ee->Str
 |.w0 s=>s
 |.fault _=>S3
 |.go s _=>s
def oE(d:Nat)(e:Ee):Ee:=if d=0 then(if Gb e=S_ then .fault T0 else if Gb e=Ta then .fault T7 else e)else e
def ik:Nat->List Sd
 |0=>[]
 |1=>[.pl false 0 (.two "+" (.pl false 0) (.num 1))]
 |2=>[.mk false 0 (.pl false 1)]
 |_=>[.cell (.pl false 1) (.pl false 0)]
def AI(s:Nat):∀g∈ik s,HZ g:=by
 match s with
 |0=>exact fun g h=>nomatch h
 |1=>exact fun g h=>by rw[JL.mp h];exact rfl
 |2=>exact fun g h=>by rw[JL.mp h];exact rfl
 |n+3=>exact fun g h=>by rw[JL.mp h];exact⟨_,_,rfl,rfl⟩
def Gc(n:Nat):PyData:=.tuple [.str SU,.int (n:Int)]
def ym(c n:Nat):PyData:=.tuple [.int (c:Int),.tuple [.tuple [Gc n,.int 1]]]
def c1(s n:Nat):Nat:=if s=1/\n=0 then 1 else 0
def DL(s:Nat):PyData:=if s=2 then Gc 1 else .tuple [.str S2,.int ((0:Nat):Int)]
def DM(s:Nat):PyData:=if s<=2 then .none else .tuple [Gc 1,ym 0 0]
def gQ(d s:Nat)(e:Ee):PyData:=.tuple [kW (oE d e),.tuple [ym (c1 s 0) 0,ym (c1 s 1) 1],.tuple [DL s],DM s]
def Gd(s n:Nat)(h:n<2):Fe 1 (cJ false n (ik s)) (c1 s n) (some (.pl false n)):=by
 match s,n,h with
 |0,n,_=>exact .pl _ n
 |1,0,_=>exact .plus 0 0 1 zd
 |1,1,_=>exact .pl _ 1
 |2,n,_=>rw[show c1 2 n=0 from e_ fun z=>absurd z.1 zd];exact .pl _ n
 |m+3,n,_=>rw[show c1 (m+3) n=0 from e_ fun z=>absurd z.1 zo];exact .pl _ n
def yn(s:Nat):cJ true 0 (ik s)=if s=2 then .pl false 1 else .mk false 0:=by
 match s with
 |0=>rfl
 |1=>rfl
 |2=>rfl
 |m+3=>rw[e_ zo];rfl
def DN(s:Nat):vj (ik s)=if s<=2 then none else some (1,0):=by
 match s with
 |0=>rfl
 |1=>rfl
 |2=>rfl
 |m+3=>rw[e_ zo];rfl
variable{H:Hp}{K:ZF}
def PR.dt:∀{e:Ee}{v:V},PR H e v->Dt K H v (kW e)
 |.w0 s,_,⟨p,rfl,h⟩=>.tup (NL.of h) (.cons (.str _) .nil)
 |.fault z,_,⟨p,rfl,h⟩=>.tup (NL.of h) (.cons (.str _) (.cons (.str _) .nil))
 |.go s j,_,⟨p,rfl,h⟩=>.tup (NL.of h) (.cons (.str _) (.cons (.int _) .nil))
def PR.hd:∀{e:Ee}{v:V},PR H e v->∃p r,v=.ref p/\H p=some (.tup (.str (Gb e)::r))
 |.w0 s,_,⟨p,rfl,h⟩=>⟨p,_,rfl,h⟩
 |.fault z,_,⟨p,rfl,h⟩=>⟨p,_,rfl,h⟩
 |.go s j,_,⟨p,rfl,h⟩=>⟨p,_,rfl,h⟩
variable{x y:V}
def tD:List.lookup (S_:Str) [(S_,x),(Ta,y)]=some x:=by rw[J6,show((S_:Str)==S_)=true by decide +kernel]
def tE:List.lookup (Ta:Str) [(S_,x),(Ta,y)]=some y:=by rw[J6,show((Ta:Str)==S_)=false by decide +kernel];rw[J6,show((Ta:Str)==Ta)=true by decide +kernel]
def Ge{k:Str}(h1:k≠S_)(h2:k≠Ta):List.lookup k [(S_,x),(Ta,y)]=none:=by rw[J6,beq_eq_false_iff_ne.mpr h1];rw[J6,beq_eq_false_iff_ne.mpr h2];rfl
structure Zp(w:UA)(K:ZF)(mg:Str->Option Uw)(aP aC aB:Ux):Prop where
 ep:mg "ENDS_WITHOUT_PILE"=some (.ref aP)
 td:dc w K aP [(S_,.ref aC),(Ta,.ref aB)]
 lo:(aP==sysModules)=false
 qc:∀H,NL K H aC [.str S3,.str T0]
 qb:∀H,NL K H aB [.str S3,.str T7]
inductive QS(H:Hp)(v:V)(s:Nat)(e:Ee):Prop
 |mk(p q:Ux)(us:UG)(u:V):v=.ref p->H p=some (.tup [.str TD,.ref q,u])->H q=some (.tup us)->Paired (fun v g=>OQ H g v) us (ik s)->PR H e u->QS H v s e
variable{s:Nat}{v:V}
def QS.of{e:Ee}(h:QN H (.leaf (ik s) e) v):QS H v s e:=by obtain⟨p,q,us,u,a,b,c,d,f⟩:=h;exact ⟨p,q,us,u,a,b,c,d,f⟩
inductive tH(K:ZF)(C:Ux)(vs:UG)(H:Hp)(Q:VK)(Z3:XK):Prop
 |mk(t ch u:V)(a:Ux)(D:Fm)(s:Nat)(e:Ee):vs=[t,ch,.ref a,u]->Op C H t D->D.width=9->D.places.length=2->D.marks.length=1->H a=some (.tup [])->QS H u s e->(∀v H',NJ H H'->Dt K H' v (gQ D.depth s e)->Q v H')->tH K C vs H Q Z3
inductive Je(K:ZF)(t ch u:V)(a q:Ux)(d:Nat)(e:Ee)(H:Hp)(σ:St)(H':Hp):Prop
 |mk(ve:V):σ=[some t,some ch,some (.ref a),some u,some (.ref q),some ve,none,none,none,none]->NJ H H'->Dt K H' ve (kW (oE d e))->Je K t ch u a q d e H σ H'
inductive Qm(H:Hp)(b:Bool)(s:Nat)(i:Nat)(ys:UG):Prop
 |mk:Paired (fun v n=>Od H (cJ b n (ik s)) v) ys (List.range i)->Qm H b s i ys
inductive Qx(H:Hp)(s:Nat)(i:Nat)(ys:UG):Prop
 |mk:Paired (fun v n=>PM H v (c1 s n) (some (.pl false n))) ys (List.range i)->Qx H s i ys
inductive Qw(H:Hp)(s:Nat)(i:Nat)(ys:UG):Prop
 |mk:Paired (fun v n=>Py H v (cJ true n (ik s))) ys (List.range i)->Qw H s i ys
variable{ys:UG}{i:Nat}{b:Bool}
def Qm.next{H H':Hp}(p:Qm H b s i ys)(z:NJ H H')(h:Od H' (cJ b i (ik s)) v):Qm H' b s (i+1) (ys++[v]):=by
 obtain⟨p⟩:=p;refine⟨?_⟩;rw[Kz];exact ff (R:=fun v n=>Od H' (cJ b n (ik s)) v) h (bW (fun _ _ h=>Od.kt (ay z) h) p)
def Qx.next{H H':Hp}(p:Qx H s i ys)(z:NJ H H')(h:PM H' v (c1 s i) (some (.pl false i))):Qx H' s (i+1) (ys++[v]):=by
 obtain⟨p⟩:=p;refine⟨?_⟩;rw[Kz];exact ff (R:=fun v n=>PM H' v (c1 s n) (some (.pl false n))) h (bW (fun _ _ h=>PM.same h z) p)
def Qw.next{H H':Hp}(p:Qw H s i ys)(z:NJ H H')(h:Py H' v (cJ true i (ik s))):Qw H' s (i+1) (ys++[v]):=by
 obtain⟨p⟩:=p;refine⟨?_⟩;rw[Kz];exact ff (R:=fun v n=>Py H' v (cJ true n (ik s))) h (bW (fun _ _ h=>Py.same h z) p)
def Qm.len(p:Qm H b s i ys):ys.length=i:=by obtain⟨p⟩:=p;rw[p.length,k_]
def Qx.len(p:Qx H s i ys):ys.length=i:=by obtain⟨p⟩:=p;rw[p.length,k_]
def Qw.len(p:Qw H s i ys):ys.length=i:=by obtain⟨p⟩:=p;rw[p.length,k_]
def Qm.at{s i k:Nat}(p:Qm H b s i ys)(h:ys[k]?=some v):k<i/\Od H (cJ b k (ik s)) v:=by
 have hl:=p.len;obtain⟨p⟩:=p;obtain⟨n,hn,x⟩:=cM p h;have hk:k<i:=by rw[<-hl];exact(JA.mp h).1
 rw[N_ hk]at hn;cases hn;exact⟨hk,x⟩
def Qm.same{H H':Hp}(p:Qm H b s i ys)(z:NJ H H'):Qm H' b s i ys:=by obtain⟨p⟩:=p;exact⟨bW (fun _ _ h=>Od.kt (ay z) h) p⟩
def Qx.same{H H':Hp}(p:Qx H s i ys)(z:NJ H H'):Qx H' s i ys:=by obtain⟨p⟩:=p;exact⟨bW (fun _ _ h=>h.same z) p⟩
def Qw.same{H H':Hp}(p:Qw H s i ys)(z:NJ H H'):Qw H' s i ys:=by obtain⟨p⟩:=p;exact⟨bW (fun _ _ h=>h.same z) p⟩
def Qx.dt(p:Qx H s 2 ys):N4 K H ys [ym (c1 s 0) 0,ym (c1 s 1) 1]:=by
 obtain⟨p⟩:=p;cases p with
 |cons a r=>
 cases r with
 |cons b r=>
 cases r;exact .cons a.pl (.cons b.pl .nil)
def Qw.dt(p:Qw H s 1 ys):N4 K H ys [DL s]:=by
 obtain⟨p⟩:=p;cases p with
 |cons a r=>
 cases r;refine .cons ?_ .nil;rw[yn]at a;unfold DL;split
 ·next h=>rw[g_ h]at a;exact a.pl
 ·next h=>rw[e_ h]at a;exact a.mk'
def Rz.dt(h:Rz H v (vj (ik s))):Dt K H v (DM s):=by
 rw[DN]at h;unfold DM;by_cases hs:s<=2
 ·rw[g_ hs]at h⊢;cases h with
  |no e=>subst e;exact .non
 ·rw[e_ hs]at h⊢;cases h with
  |one p x y k n e hp hx hy=>subst e;exact .tup (NL.of hp) (.cons hx.pl (.cons hy.pl .nil))
variable{P:Uz}{w:UA}{K:ZF}{mg:Str->Option Uw}{base:Heap}{C fi aS aE aF aO:Ux}{t1 t2 t3 t4 t5 tM:Tok}
def Pw:al [SQ,SW,SX,TD,TB,Uo,SZ,S5,"forms","bits"] [SQ,SW,SX,TD] (ah rC):=bH zk
def BN:(["number",SW,TB]:UD).Nodup:=by decide +kernel
def BP:([Uu,SW,SX,SQ]:UD).Nodup:=by decide +kernel
def DP(F:N1 K "effect_of" "effect_of" rC f fd)(B:Bl mg)(T:Tc K C)(Z:Zp w K mg aP aC aB)(LG:Fn P w K mg base "last_given" 2 [SW,TB,Tg,"number"] rs)(FO:Fn P w K mg base "form_of" 4 [SQ,SW,SX,Uu] (ij C 2))(BI:Fn P w K mg base "bit_of" 3 [SQ,SW,SX,Uu] yi)(CG:Fn P w K mg base "cell_given" 5 [SQ,SW,SX,TB] (nv C)):NN P w K mg base br 6 f fd [SQ,SW,SX,TD] (tH K C):=by
 have ZZ:=Pw
 walk_at "o"
 ·obtain⟨t,ch,u,a,D,sn,e,rfl,hT,hw,UT,hm1,ha,⟨p,q0,us,ue,rfl,hp,hq,K9,Zg⟩,q⟩:=h;have sz:1000<=sizeLine:=by decide
  refine⟨_,(ae (cu (cB wq (pv 3) (cy ai) dN) (bT rfl (aq (ju (i:=4) Pw.nd rfl (Or.inr rfl)) (aq (bM (i:=5) Pw.nd) bi)))) (dX (Je K t ch (.ref p) a q0 D.depth e H) (aM (PW.pt (cr (ak aY (aK (pv 0) rfl) ai) (cb (ak yl (ax ar (pv 5) ai) (be (v:=.ref aP) rfl Z.ep rfl) rfl)))) (ag (bS (i:=5) Pw.nd (ax wx (be (v:=.ref aP) rfl Z.ep rfl) (ax ar (pv 5) ai)))) aw) (ae (dh (i:=6) Pw.nd rfl rfl (N':=["number",SW,TB]) (ix:=[none,some 1,some 4]) (sc0:=ah rC) (N:=[SQ,SW,SX,TD,TB,Uo,SZ,S5,"forms","bits"]) rfl zk (cF rfl B.range (aa (au aH (by rfl) B.len JI (aa (aK (pv 0) rfl) ab)) ab)) (fun _ _ _ _ _=>(bM (i:=0) BN)) (fun _ _ _ _ _=>bz) (fun _ _ _ _ _=>(ap LG hr.m rfl (aa (pv 1) (aa (pv 2) (aa aj (aa (pv 0) ab))))))) (ae (dh (i:=7) Pw.nd rfl rfl (N':=["number",SW,TB]) (ix:=[none,some 1,some 4]) (sc0:=ah rC) (N:=[SQ,SW,SX,TD,TB,Uo,SZ,S5,"forms","bits"]) rfl zk (cF rfl B.range (aa (au aH (by rfl) B.len JI (aa (aK (pv 0) rfl) ab)) ab)) (fun _ _ _ _ _=>(bM (i:=0) BN)) (fun _ _ _ _ _=>bz) (fun _ _ _ _ _=>(ap LG hr.m rfl (aa (pv 1) (aa (pv 2) (aa aj (aa (pv 0) ab))))))) (ae (bS (i:=8) Pw.nd (aV bh (by rfl) B.tuple aZ (aa (cI (N':=[Uu,SW,SX,SQ]) (ix:=[none,some 1,some 2,some 0]) (sc0:=ah rC) (N:=[SQ,SW,SX,TD,TB,Uo,SZ,S5,"forms","bits"]) rfl zk (bV (pv 6)) (fun _ _ _ _ _=>(bM (i:=0) BP)) (fun _ _ _ _ _=>bz) (fun _ _ _ _ _=>(ap FO hr.m rfl (aa (pv 3) (aa (pv 1) (aa (pv 2) (aa (pv 0) ab))))))) ab))) (ae (bS (i:=9) Pw.nd (aV bh (by rfl) B.tuple aZ (aa (cI (N':=[Uu,SW,SX,SQ]) (ix:=[none,some 1,some 2,some 0]) (sc0:=ah rC) (N:=[SQ,SW,SX,TD,TB,Uo,SZ,S5,"forms","bits"]) rfl zk (bV (pv 7)) (fun _ _ _ _ _=>(bM (i:=0) BP)) (fun _ _ _ _ _=>bz) (fun _ _ _ _ _=>(ap BI hr.m rfl (aa (pv 3) (aa (pv 1) (aa (pv 2) (aa (pv 0) ab))))))) ab))) (ag (am (av (aa (pv 5) (aa (pv 8) (aa (pv 9) (aa (ap CG hr rfl (aa (pv 0) (aa (pv 1) (aa (pv 2) (aa (pv 4) ab))))) ab))))))))))))),?_⟩;refine⟨_,rfl,_,rfl,p,_,rfl,NL.of hp,by show¬(HT.sIx 3 0 (some 1)=0/\HT.sIx 3 3 none=3);decide,fun p1 n1=>?_⟩;generalize hz:az H p1 _=H1;have⟨s1,e1⟩:=nw n1 hz;clear hz;have e1:H1 p1=some (.tup [.ref q0,ue]):=e1;refine⟨p1,_,rfl,NL.of e1,rfl,_,_,rfl,_,_,rfl,rfl,?_⟩;have WZ:=PR.kt (ay s1) Zg;obtain⟨a0,dx,pp,pm,pn,pk,ks,rfl,ho,T',UK,_⟩:=id (hT.same s1);obtain⟨x1,x2,hxp⟩:∃x y,D.places=[x,y]:=by
   match D.places,UT with
   |[x,y],_=>exact⟨x,y,rfl⟩
  obtain⟨x3,hxm⟩:∃x,D.marks=[x]:=by
   match D.marks,hm1 with
   |[x],_=>exact⟨x,rfl⟩
  rw[hxp]at T';rw[hxm]at UK;refine⟨?_,?_⟩;rotate_left
  ·obtain⟨pe,r,rfl,hpe⟩:=WZ.hd;refine⟨_,rfl,a0,C,dx,_,_,rfl,ho,T.cl,T.na S9 zk,rfl,rfl,_,rfl,eD (fun hd=>?_) (fun hd=>?_)⟩
   ·have Xb:D.depth=0:=by have:=V.int.inj (j_ hd);lia
    refine⟨_,rfl,pe,_,_,_,rfl,rfl,NL.of hpe,bf,aP,_,_,rfl,Z.td,rfl,Z.lo,_,rfl,?_⟩;by_cases h1:Gb e=S_
    ·refine bj (by rw[h1,tD];rfl) ?_;refine⟨_,rfl,pe,_,_,_,rfl,rfl,NL.of hpe,bf,aP,_,_,.ref aC,rfl,Z.td,rfl,by rw[h1];exact tD,?_⟩;exact⟨_,rfl,s1,by rw[show oE D.depth e=.fault T0 from(g_ Xb).trans (g_ h1)];exact .tup (Z.qc _) (.cons (.str _) (.cons (.str _) .nil))⟩
    ·by_cases h2:Gb e=Ta
     ·refine bj (by rw[h2,tE];rfl) ?_;refine⟨_,rfl,pe,_,_,_,rfl,rfl,NL.of hpe,bf,aP,_,_,.ref aB,rfl,Z.td,rfl,by rw[h2];exact tE,?_⟩;exact⟨_,rfl,s1,by rw[show oE D.depth e=.fault T7 from(g_ Xb).trans ((e_ h1).trans (g_ h2))];exact .tup (Z.qb _) (.cons (.str _) (.cons (.str _) .nil))⟩
     ·refine aN (by rw[Ge h1 h2];rfl) ?_;exact⟨_,rfl,s1,by rw[show oE D.depth e=e from(g_ Xb).trans ((e_ h1).trans (e_ h2))];exact WZ.dt⟩
   ·have Xb:D.depth≠0:=fun z=>hd (b_ (by rw[z];rfl));exact⟨_,rfl,s1,by rw[show oE D.depth e=e from e_ Xb];exact WZ.dt⟩
  ·rintro σ H2 ⟨ve,rfl,s2,hve⟩;have fS:=AI sn;have YB:=hT.same s2;have ZJ:=bW (fun _ _ h=>OQ.kt (ay s2) h) K9;obtain⟨_,dx,pp,pm,pn,pk,ks,ez,ho,T',UK,_⟩:=id YB;cases ez;rw[hxp]at T';rw[hxm]at UK;have hq2:=s2 _ _ hq;have ha2:=s2 _ _ ha;clear s1 e1 WZ;refine⟨_,rfl,a0,C,dx,_,_,rfl,ho,T.cl,T.na SZ zk,rfl,pp,_,rfl,.inr (NL.of T'),_,rfl,by show -(2^62:Int)<=((2:Nat):Int);decide,by show((2:Nat):Int)<2^62;decide,?_⟩;refine di (lo:=0) (n:=2) (fun i ys H'=>NJ H2 H'/\Qm H' false sn i ys) ⟨NJ.refl _,⟨.nil⟩⟩ (fun i ys H' hi⟨_,p⟩=>by rw[p.len];lia) ?_ ?_
   ·rintro i ys H3 hi ⟨s3,p3⟩;rw[Pi];refine⟨⟨rfl,rfl,trivial⟩,bC ?_⟩;refine⟨_,rfl,_,rfl,_,rfl,ch,q0,us,ik sn,false,i,rfl,s3 _ _ hq2,bW (fun _ _ h=>OQ.kt (ay s3) h) ZJ,fS,fun v H4 s4 h4=>?_⟩;exact Nx.mk hi ⟨s3.trans s4,p3.next s4 h4⟩
   rintro ys H3 ⟨s3,p3⟩ lp np;have s4:=af (o:=.lst ys) np;have e4:az H3 lp (.lst ys) lp=some (.lst ys):=ac;have p4:=p3.same s4;generalize az H3 lp (.lst ys)=H4 at*;have t4:=s3.trans s4;refine⟨_,rfl,a0,C,dx,_,_,rfl,t4 _ _ ho,T.cl,T.na S5 zk,rfl,pm,_,rfl,.inr (NL.of (t4 _ _ UK)),_,rfl,by show -(2^62:Int)<=((1:Nat):Int);decide,by show((1:Nat):Int)<2^62;decide,?_⟩;refine di (lo:=0) (n:=1) (fun i ys H'=>NJ H4 H'/\Qm H' true sn i ys) ⟨NJ.refl _,⟨.nil⟩⟩ (fun i ys H' hi⟨_,p⟩=>by rw[p.len];lia) ?_ ?_
   ·rintro i ys H5 hi ⟨s5,p5⟩;rw[Pi];have t5:=t4.trans s5;refine⟨⟨rfl,rfl,trivial⟩,bC ?_⟩;refine⟨_,rfl,_,rfl,_,rfl,ch,q0,us,ik sn,true,i,rfl,t5 _ _ hq2,bW (fun _ _ h=>OQ.kt (ay t5) h) ZJ,fS,fun v H6 s6 h6=>?_⟩;exact Nx.mk hi ⟨s5.trans s6,p5.next s6 h6⟩
   rintro zs H5 ⟨s5,m5⟩ lm nm;have s6:=af (o:=.lst zs) nm;have e6:az H5 lm (.lst zs) lm=some (.lst zs):=ac;have m6:=m5.same s6;generalize az H5 lm (.lst zs)=H6 at*;have u6:=s5.trans s6;have p6:=p4.same u6;have ep6:=u6 _ _ e4;have t6:=t4.trans u6;refine⟨_,rfl,lp,rfl,⟨_,NQ.of ep6⟩,?_⟩;refine db (K:=K) (a:=lp) (xs:=ys) (fun i zs H'=>NJ H6 H'/\Qx H' sn i zs) ⟨NJ.refl _,⟨.nil⟩⟩ (fun i zs H' hi⟨s',p⟩=>⟨NQ.of (s' _ _ ep6),by rw[p.len];rw[p6.len]at hi;lia⟩) ?_ ?_
   ·rintro i x zs H7 hx ⟨s7,p7⟩;obtain⟨hi,hx⟩:=p6.at hx;have t7:=t6.trans s7;refine⟨⟨rfl,rfl,rfl,trivial⟩,bC ?_⟩;refine⟨_,rfl,_,rfl,_,rfl,_,rfl,.ref a0,ch,x,a,D,_,_,_,rfl,YB.same t7,hw,t7 _ _ ha2,Od.kt (ay s7) hx,Gd sn i hi,fun v H8 s8 h8=>?_⟩;exact Nx.mk (by rw[p6.len];exact hi) ⟨s7.trans s8,p7.next s8 h8⟩
   rintro fs H7 ⟨s7,f7⟩ lf nf;rw[p6.len]at f7;have s8:=af (o:=.lst fs) nf;have e8:az H7 lf (.lst fs) lf=some (.lst fs):=ac;have f8:=f7.same s8;generalize az H7 lf (.lst fs)=H8 at*;refine⟨lf,fs,rfl,.inl ⟨NQ.of e8,fun tf nt=>?_⟩⟩;have s9:=af (o:=.tup fs) nt;have e9:az H8 tf (.tup fs) tf=some (.tup fs):=ac;have f9:=f8.same s9;generalize az H8 tf (.tup fs)=H9 at*;have u9:=(s7.trans s8).trans s9;have m9:=m6.same u9;have em9:=u9 _ _ e6;have t9:=t6.trans u9;refine⟨_,rfl,lm,rfl,⟨_,NQ.of em9⟩,?_⟩;refine db (K:=K) (a:=lm) (xs:=zs) (fun i bs H'=>NJ H9 H'/\Qw H' sn i bs) ⟨NJ.refl _,⟨.nil⟩⟩ (fun i bs H' hi⟨s',p⟩=>⟨NQ.of (s' _ _ em9),by rw[p.len];rw[m9.len]at hi;lia⟩) ?_ ?_
   ·rintro i x bs Ha hx ⟨sa,pa⟩;obtain⟨hi,hx⟩:=m9.at hx;have i0:i=0:=by lia
    subst i0;have ta:=t9.trans sa;refine⟨⟨rfl,rfl,rfl,trivial⟩,bC ?_⟩;refine⟨_,rfl,_,rfl,_,rfl,_,rfl,.ref a0,ch,x,a,_,rfl,ta _ _ ha2,Od.kt (ay sa) hx,?_,fun v Hb sb hb=>?_⟩
    ·rw[yn];split
     ·exact⟨false,1,rfl⟩
     ·exact⟨true,0,rfl⟩
    exact Nx.mk (by rw[m9.len];exact hi) ⟨sa.trans sb,pa.next sb hb⟩
   rintro bs Ha ⟨sa,ba⟩ lb nb;rw[m9.len]at ba;have sb:=af (o:=.lst bs) nb;have eb:az Ha lb (.lst bs) lb=some (.lst bs):=ac;have bb:=ba.same sb;generalize az Ha lb (.lst bs)=Hb at*;refine⟨lb,bs,rfl,.inl ⟨NQ.of eb,fun tb ntb=>?_⟩⟩;have sc:=af (o:=.tup bs) ntb;have ec:az Hb tb (.tup bs) tb=some (.tup bs):=ac;have bc:=bb.same sc;generalize az Hb tb (.tup bs)=Hc at*;have uc:=(sa.trans sb).trans sc;have tc:=t9.trans uc;refine⟨_,rfl,_,rfl,_,rfl,_,rfl,_,rfl,_,rfl,_,rfl,.ref a0,ch,a,q0,D,us,ik sn,rfl,YB.same tc,hw,tc _ _ ha2,tc _ _ hq2,bW (fun _ _ h=>OQ.kt (ay tc) h) ZJ,fS,fun vc Hd sd hd=>?_⟩;refine⟨N0,fun pr Z8=>?_⟩;have se:=af (o:=.tup [ve,.ref tf,.ref tb,vc]) Z8;have ee:az Hd pr (.tup [ve,.ref tf,.ref tb,vc]) pr=some (.tup [ve,.ref tf,.ref tb,vc]):=ac;generalize az Hd pr (.tup [ve,.ref tf,.ref tb,vc])=He at*;have ue:=sd.trans se;refine q _ _ (s2.trans (tc.trans ue)) (.tup (NL.of ee) (.cons (Dt.same (tc.trans ue) hve) (.cons (.tup (NL.of ((uc.trans ue) _ _ e9)) (f9.same (uc.trans ue)).dt) (.cons (.tup (NL.of (ue _ _ ec)) (bc.same ue).dt) (.cons (Dt.same se hd.dt) .nil)))))
end L3
namespace L2
open PySem PySem.Spec PyProof.Rows
variable{K:ZF}{X:Cx}
def AJ{tg l:Expr}{tl:TE}(h:X.K=K)(hl:PE X l tl):PI X tg l (E8 K tl):=by subst h;exact cK hl
def kD{tg l:Expr}{tl:TE}(h:X.K=K)(hl:PE X l tl):PI X tg l (Bg K tl):=by subst h;exact bV hl
def DQ(Pv:Nat->UG->Hp->Prop)(h0:Pv 0 ys H)(hl:∀i ys H,i<=xs.length->Pv i ys H->NL K H a xs/\ys.length<=sizeLine)
  (hs:∀i x ys H,xs[i]?=some x->Pv i ys H->g x σ H fun σ2 H2=>Ob σ σ2/\tf σ2 H2 fun b H3=>if b=true then te σ2 H3 fun y H4=>Nx Pv xs.length i (ys++[y]) H4 else Nx Pv xs.length i ys H3)
  (hd:∀ys H,Pv xs.length ys H->Q ys H):pH (Bf K a) g tf te σ ys H Q:=by
 refine⟨fun i m ys H=>m=xs.length-i/\i<=xs.length/\Pv i ys H,⟨xs.length,by simp,JN _,h0⟩,?_⟩;rintro i m ys H ⟨rfl,hi,p⟩;obtain⟨q,hz⟩:=hl i ys H hi p;by_cases Ld:i<xs.length
 ·refine .inr ⟨⟨xs,xs[i],q,by simp[Ld]⟩,hz,fun x H' y=>?_⟩;obtain⟨e,y⟩:=y;subst e;exact hs i x ys _ (y xs q) p
 ·have e:i=xs.length:=by lia
  subst e;exact .inl ⟨⟨xs,q,JB _⟩,hz,hd ys H p⟩
def nz(Pv:Nat->UG->Hp->Prop)(h0:Pv 0 ys H)(hl:∀i ys H,i<=xs.length->Pv i ys H->NQ K H a xs/\ys.length<=sizeLine)
  (hs:∀i x ys H,xs[i]?=some x->Pv i ys H->g x σ H fun σ2 H2=>Ob σ σ2/\tf σ2 H2 fun b H3=>if b=true then te σ2 H3 fun y H4=>Nx Pv xs.length i (ys++[y]) H4 else Nx Pv xs.length i ys H3)
  (hd:∀ys H,Pv xs.length ys H->Q ys H):pH (Be K a) g tf te σ ys H Q:=by
 refine⟨fun i m ys H=>m=xs.length-i/\i<=xs.length/\Pv i ys H,⟨xs.length,by simp,JN _,h0⟩,?_⟩;rintro i m ys H ⟨rfl,hi,p⟩;obtain⟨q,hz⟩:=hl i ys H hi p;by_cases Ld:i<xs.length
 ·refine .inr ⟨⟨xs,xs[i],q,by simp[Ld]⟩,hz,fun x H' y=>?_⟩;obtain⟨e,y⟩:=y;subst e;exact hs i x ys _ (y xs q) p
 ·have e:i=xs.length:=by lia
  subst e;exact .inl ⟨⟨xs,q,JB _⟩,hz,hd ys H p⟩
def kE(Pv:Nat->UG->Hp->Prop)(h0:Pv 0 [] H)(hl:∀i ys H,i<=xs.length->Pv i ys H->NQ K H a xs/\ys.length<=sizeLine)
  (hs:∀i x ys H,xs[i]?=some x->Pv i ys H->g x (eG ix σ) H fun σ2 H2=>Ob (eG ix σ) σ2/\Vx σ2 H2 fun J2 H3=>pH J2 g2 tf te σ2 ys H3 fun F' H4=>Nx Pv xs.length i F' H4)
  (hd:∀ys H,Pv xs.length ys H->∀D,H D=none->Q (.ref D) (az H D (.lst ys))):tu (Be K a) g Vx g2 tf te ix σ H Q:=by
 refine⟨fun i m ys H=>m=xs.length-i/\i<=xs.length/\Pv i ys H,⟨xs.length,by simp,JN _,h0⟩,?_⟩;rintro i m ys H ⟨rfl,hi,p⟩;obtain⟨q,hz⟩:=hl i ys H hi p;by_cases Ld:i<xs.length
 ·refine .inr ⟨⟨xs,xs[i],q,by simp[Ld]⟩,fun x H' y=>?_⟩;obtain⟨e,y⟩:=y;subst e;exact hs i x ys _ (y xs q) p
 ·have e:i=xs.length:=by lia
  subst e;exact .inl ⟨⟨xs,q,JB _⟩,hz,hd ys H p⟩
inductive yo(K:ZF)(x:V)(y:V)(H:Hp)(Q:VK):Prop
 |mk(a b xs ys:_):x=.ref a->y=.ref b->NL K H a xs->NL K H b ys->ys≠[]->xs.length+ys.length<=sizeLine->(xs=[]->Q (.ref b) H)->(xs≠[]->∀p,H p=none->Q (.ref p) (az H p (.tup (xs++ys))))->yo K x y H Q
def AK:eM X (binaryOp .Add) (yo X.K):=by
 intro K3 s σ H x y v u Q I rx ry h;obtain⟨a,b,xs,ys,rfl,rfl,ha,hb,hy,hz,q0,q1⟩:=h;by_cases hx:xs=[]
 ·cases rx;cases ry;obtain⟨f',r1,p1,_⟩:=I.tuple ha;obtain⟨U2,r2,p2,_⟩:=I.tuple hb;have h0:f'=[]:=r1.nil_iff.mpr hx;obtain⟨⟨cls,dd,data,sl⟩,ho,hc,n,hd⟩:=id p1;obtain⟨⟨cls2,Zv,Y3,Y8⟩,UL,We,n2,PL⟩:=id p2;simp only at hc hd We PL;subst hc hd We PL;exact concat_meets ⟨_,ho,rfl⟩ ⟨_,UL,rfl⟩ noFill_tuple_add seq_tuple_add RZ RV (RS _ _)
   (tuple_addW0 a b f'.toArray U2.toArray n n2 dd Zv sl Y8 (by simp[h0])) ⟨ho,UL,.ref b,H,I,rfl,q0 hx⟩
 ·exact sE K3 s σ H _ _ v u Q I rx ry ⟨a,b,xs,ys,rfl,rfl,ha,hb,hx,hz,fun z=>absurd z hy,fun _=>q1 hx⟩
def yp(h:X.K=K):eM X (binaryOp .Add) (yo K):=by subst h;exact AK
end L2
namespace L3
open PySem L2
abbrev nB:Stmt:=top 35
abbrev rD:Stmt:=top 48
abbrev rE:Stmt:=top 47
abbrev il:Stmt:=top 46
def nC:Nat->Str
 |0=>"f"
 |1=>"g"
 |_=>"h"
def AM:Nat->List Gs
 |0=>[]
 |1=>[.nm "a" (.two "+" (.nm "a") (.num 1))]
 |2=>[.nm "m" (.nm "b")]
 |_=>[.cell (.nm "b") (.nm "a")]
def DR:Ee->En
 |.w0 s=>.w0 s
 |.fault z=>.w1 S3 z
 |.go s j=>.w1 s (nC j)
def cQ(n:Nat):List Ee:=[.w0 To,.w0 Ta,.w0 Tp,.fault "zq",.fault "deepq",.fault "ba"]++((List.range n).map (.go Uh)++(List.range n).map (.go S_))
def jp(n:Nat):UF:=(List.range n).map fun j=>(nC j,Tn)
def jF(n s:Nat)(e:Ee):Kn:=⟨Uv,jp n,.leaf (AM s) (DR e),.leaf (ik s) e⟩
def lQ(d n s:Nat)(e:Ee):Fm:=⟨9,7,d,["a","b"],["m"],[],[jF n s e]⟩
structure Tv(C:Ux)(H:Hp)(v:V)(d n s:Nat)(e:Ee):Prop where
 tb:Op C H v (lQ d n s e)
 ok:rf (lQ d n s e)
variable{e:Ee}{d n s:Nat}{v:V}{H H':Hp}{C:Ux}
def Tv.same(h:Tv C H v d n s e)(z:NJ H H'):Tv C H' v d n s e:=⟨h.tb.same z,h.ok⟩
def Tv.kn(h:Tv C H v d n s e):jF n s e∈(lQ d n s e).kinds:=JL.mpr rfl
def G1:UD:=["number",TZ,SU]
def ES:UD:=["number",TZ,SU,S2]
structure DS(K:ZF)(mg:Str->Option Uw)(aA aG:Ux):Prop where
 ad:mg "ADDRESSES"=some (.ref aA)
 adq:∀H,NL K H aA (aJ G1)
 sg:mg "SINGLES"=some (.ref aG)
 sgq:∀H,NL K H aG (aJ ES)
inductive kF(vs:UG)(H:Hp)(Q:VK)(Z3:XK):Prop
 |mk(u:V)(s:Nat)(e:Ee):vs=[u]->QS H u s e->(∀l,H l=none->Q (.ref l) (az H l (.lst [u])))->kF vs H Q Z3
inductive yq(m:Nat)(vs:UG)(H:Hp)(Q:VK):Prop
 |mk(u:V)(e:Ed)(c:Nat)(x:Option Ed):vs=[u]->Od H e u->Fe m e c x->(∀H',NJ H H'->Q (.bl true) H')->yq m vs H Q
def tI:Nat->Sp
 |0=>hZ
 |m+1=>fun vs H Q _=>yq m vs H Q
inductive Gf:Sd->Prop
 |pl (n:Nat) (e:Ed) (c:Nat) (x:Option Ed):Fe 1 e c x->Gf (.pl false n e)
 |mk(n k:Nat):Gf (.mk false n (.pl false k))
 |cell (k n:Nat):Gf (.cell (.pl false k) (.pl false n))
def Ie(s:Nat):∀g∈ik s,Gf g:=by
 match s with
 |0=>exact fun g h=>nomatch h
 |1=>exact fun g h=>by rw[JL.mp h];exact .pl _ _ _ _ (.plus 0 0 1 zd)
 |2=>exact fun g h=>by rw[JL.mp h];exact .mk _ _
 |n+3=>exact fun g h=>by rw[JL.mp h];exact .cell _ _
inductive rF(vs:UG)(H:Hp)(Q:VK)(Z3:XK):Prop
 |mk(u:V)(g:Sd):vs=[u]->OQ H g u->Gf g->(∀H',NJ H H'->Q (.bl true) H')->rF vs H Q Z3
inductive i5(C:Ux)(vs:UG)(H:Hp)(Q:VK)(Z3:XK):Prop
 |mk(v:V)(d n s:Nat)(e:Ee):vs=[v,.str Uv]->Tv C H v d n s e->(∀H',NJ H H'->Q (.bl true) H')->i5 C vs H Q Z3
variable{P:Uz}{w:UA}{K:ZF}{mg:Str->Option Uw}{base:Heap}{C fi aS aE aF aO:Ux}{t1 t2 t3 t4 t5 tM:Tok}
def Ig:al [TL] [TL] (ah nB):=bH zk
def vk(F:N1 K "leaves_of" "leaves_of" nB f fd)(LV:Fn P w K mg base "leaves_of" 0 [TL] hZ):NN P w K mg base br 1 f fd [TL] kF:=by
 have ZZ:=Ig
 walk_at "o"
 ·obtain⟨u,s,e,rfl,⟨p,q0,us,ue,rfl,hp,_⟩,q⟩:=h;refine⟨_,(ag (am (bx (ak aY (ax ar (pv 0) ai) aj) (bF (aa (pv 0) ab)) (aX ei (ap LV hr rfl (aa (ax ar (pv 0) ai) ab)) (ap LV hr rfl (aa (ax ar (pv 0) ai) ab)))))),?_⟩;exact⟨_,rfl,p,_,_,_,rfl,rfl,NL.of hp,bf,rfl,_,rfl,bj zk ⟨_,rfl,N0,q⟩⟩
def Ih:al [Uu] [Uu] (ah rD):=bH zk
def yr(F:N1 K "is_sum" "is_sum" rD f fd)(Z:DS K mg aA aG)(IS:Fn P w K mg base "is_sum" n [Uu] (tI m)):NN P w K mg base br (n+1) f fd [Uu] (tI (m+1)):=by
 have ZZ:=Ih
 walk_at "o"
 ·obtain⟨u,e,c,x,rfl,hu,he,q⟩:=h;refine⟨_,(ae (aM (ak bX (ax ar (pv 0) ai) (av (aa aj (aa aj ab))) rfl) (ag (am (cP (ap IS hr rfl (aa (ax ar (pv 0) ai) ab)) (cO (ap IS hr rfl (aa (ax ar (pv 0) ai) ab)))))) aw) (ae (aM (ak aY (ax ar (pv 0) ai) aj) (ag aU) aw) (ag (am (bx (ak aY (ax ar (pv 0) ai) aj) (bK bX (ax ar (ax ar (pv 0) ai) ai) (be (v:=.ref aA) rfl Z.ad rfl) rfl) (bK bX (ax ar (pv 0) ai) (be (v:=.ref aG) rfl Z.sg rfl) rfl)))))),?_⟩;cases he with
  |plus m n c hc=>
   obtain⟨p,u1,u2,rfl,hp,h1,h2⟩:=hu;refine⟨_,rfl,p,_,_,_,rfl,rfl,NL.of hp,bf,N0,fun t1 n1=>?_⟩;have s1:=af (o:=.tup [.str "+",.str "-"]) n1;refine⟨t1,_,rfl,.inr (NL.of ac),rfl,bu ["+","-"],_,rfl,bj zk ?_⟩;generalize az H t1 (.tup [.str "+",.str "-"])=H1 at*;have Vn:=s1 _ _ hp;refine⟨_,rfl,p,_,_,_,rfl,rfl,NL.of Vn,cn,u1,.pl false n,_,_,rfl,Od.kt (ay s1) h1,.pl _ n,fun H2 s2=>⟨_,rfl,eQ ?_⟩⟩;exact⟨_,rfl,p,_,_,_,rfl,rfl,NL.of (s2 _ _ Vn),ic,u2,.num c,_,_,rfl,Od.kt (ay (s1.trans s2)) h2,.num _ c,fun H3 s3=>q H3 ((s1.trans s2).trans s3)⟩
  |pl m n=>
   obtain⟨p,u',rfl,hp,VI⟩:=id hu;refine⟨_,rfl,p,_,_,_,rfl,rfl,NL.of hp,bf,N0,fun t1 n1=>?_⟩;have s1:=af (o:=.tup [.str "+",.str "-"]) n1;refine⟨t1,_,rfl,.inr (NL.of ac),rfl,bu ["+","-"],_,rfl,aN zk ?_⟩;generalize az H t1 (.tup [.str "+",.str "-"])=H1 at*;refine⟨_,rfl,p,_,_,_,rfl,rfl,NL.of (s1 _ _ hp),bf,rfl,_,rfl,aN zk ?_⟩;refine⟨_,rfl,p,_,_,_,rfl,rfl,NL.of (s1 _ _ hp),bf,rfl,_,rfl,aN zk ?_⟩;refine⟨_,rfl,p,_,_,_,rfl,rfl,NL.of (s1 _ _ hp),bf,aG,_,rfl,.inr (Z.sgq _),rfl,bu ES,?_⟩;exact q _ s1
  |num m n=>
   obtain⟨p,rfl,hp⟩:=id hu;refine⟨_,rfl,p,_,_,_,rfl,rfl,NL.of hp,bf,N0,fun t1 n1=>?_⟩;have s1:=af (o:=.tup [.str "+",.str "-"]) n1;refine⟨t1,_,rfl,.inr (NL.of ac),rfl,bu ["+","-"],_,rfl,aN zk ?_⟩;generalize az H t1 (.tup [.str "+",.str "-"])=H1 at*;refine⟨_,rfl,p,_,_,_,rfl,rfl,NL.of (s1 _ _ hp),bf,rfl,_,rfl,aN zk ?_⟩;refine⟨_,rfl,p,_,_,_,rfl,rfl,NL.of (s1 _ _ hp),bf,rfl,_,rfl,aN zk ?_⟩;refine⟨_,rfl,p,_,_,_,rfl,rfl,NL.of (s1 _ _ hp),bf,aG,_,rfl,.inr (Z.sgq _),rfl,bu ES,?_⟩;exact q _ s1
def QX:al [Td,Tg,Up,Uu] [Td] (ah rE):=bH zk
def AO(F:N1 K "is_plain_set" "is_plain_set" rE f fd)(Z:DS K mg aA aG)(IS:Fn P w K mg base "is_sum" 2 [Uu] (tI 2)):NN P w K mg base br 3 f fd [Td] rF:=by
 have ZZ:=QX
 walk_at "o"
 ·obtain⟨u,g,rfl,hu,hg,q⟩:=h;refine⟨_,(ae (cu (pv 0) (bT rfl (aq (bM (i:=1) QX.nd) (aq (bM (i:=2) QX.nd) (aq (bM (i:=3) QX.nd) bi))))) (ae (aM (ak aY (pv 1) aj) (ag (am (bK bX (ax ar (pv 3) ai) (be (v:=.ref aG) rfl Z.sg rfl) rfl))) aw) (ag (am (cP (ap IS hr rfl (aa (pv 3) ab)) (cO (E1 (bK aY (pv 1) aj) (cO (bK bX (ax ar (pv 2) ai) (be (v:=.ref aA) rfl Z.ad rfl) rfl))))))))),?_⟩;cases hg with
  |pl n e c x he=>
   obtain⟨p,x1,x2,rfl,hp,h1,h2⟩:=hu;refine⟨_,rfl,p,_,rfl,NL.of hp,rfl,_,_,rfl,_,_,rfl,_,_,rfl,rfl,?_⟩;refine⟨_,rfl,rfl,_,rfl,aN zk ?_⟩;refine⟨_,rfl,x2,e,c,x,rfl,h2,he,fun H1 s1=>⟨_,rfl,eQ ?_⟩⟩;exact⟨_,rfl,rfl,_,rfl,bj zk (q _ s1)⟩
  |mk n k=>
   obtain⟨p,x1,x2,rfl,hp,h1,⟨p2,x3,rfl,UT,h2⟩⟩:=hu;refine⟨_,rfl,p,_,rfl,NL.of hp,rfl,_,_,rfl,_,_,rfl,_,_,rfl,rfl,?_⟩;refine⟨_,rfl,rfl,_,rfl,bj zk ?_⟩;exact⟨_,rfl,p2,_,_,_,rfl,rfl,NL.of UT,bf,aG,_,rfl,.inr (Z.sgq _),rfl,bu ES,q _ (NJ.refl _)⟩
  |cell k n=>
   obtain⟨p,x1,x2,rfl,hp,⟨p2,x3,rfl,UT,h1⟩,h2⟩:=hu;refine⟨_,rfl,p,_,rfl,NL.of hp,rfl,_,_,rfl,_,_,rfl,_,_,rfl,rfl,?_⟩;refine⟨_,rfl,rfl,_,rfl,aN zk ?_⟩;refine⟨_,rfl,x2,_,_,_,rfl,h2,.pl _ n,fun H1 s1=>⟨_,rfl,eQ ?_⟩⟩;refine⟨_,rfl,rfl,_,rfl,aN zk ?_⟩;exact⟨_,rfl,p2,_,_,_,rfl,rfl,NL.of (s1 _ _ UT),bf,aA,_,rfl,.inr (Z.adq _),rfl,bu G1,q _ s1⟩
def Ii:al [SQ,S0] [SQ,S0] (ah il):=bH zk
def Gg:([TD,Td]:UD).Nodup:=by decide +kernel
def rG(F:N1 K "is_plain" "is_plain" il f fd)(B:Bl mg)(T:Tc K C)(DX:bB P w K mg base C TL 2 [SN,S0] (gk C))(LV:Fn P w K mg base "leaves_of" 1 [TL] kF)(PS:Fn P w K mg base "is_plain_set" 3 [Td] rF):NN P w K mg base br 4 f fd [SQ,S0] (i5 C):=by
 have ZZ:=Ii
 walk_at "o"
 ·obtain⟨v,d,n,sn,e,rfl,hT,q⟩:=h;obtain⟨a,dx,pp,pm,pn,pk,us,rfl,ho,T',UK,U3,Wt,K9⟩:=id hT.tb;have sz:(100:Nat)<=sizeLine:=by decide
  obtain⟨f1,K7,M1,F1,B1⟩:=DX;refine⟨_,(ag (am (au (cY rfl) (by rfl) B.all cG (aa (rm (N':=[TD,Td]) (ix:=[none,none]) (sc0:=ah il) (N:=[SQ,S0]) rfl zk (bV (ap LV hr.m rfl (aa (aR (pv 0) (aa (pv 1) ab)) ab))) (fun C cl s H fp=>(bM (i:=0) Gg)) (fun C cl s H fp=>(AJ (K:=K) rfl (ax (ia (K:=K) rfl) (pv 0) ai))) (fun C cl s H fp=>(bM (i:=1) Gg)) (fun C cl s H fp=>bz) (fun C cl s H fp=>(ap PS hr rfl (aa (pv 1) ab)))) ab)))),?_⟩;refine⟨_,rfl,a,dx,C,f1,_,K7,2,[SN,S0],_,rfl,ho,rfl,T.cl,M1,F1,hr.m,B1,_,rfl,_,_,jF n sn e,rfl,hT.tb,hT.ok,hT.kn,fun b hb=>?_⟩;have hL:=QS.of hb;obtain⟨p,q0,gs,ue,rfl,hp,hq,Wx,Zg⟩:=id hL;refine⟨_,sn,e,rfl,hL,fun l nl=>?_⟩;have s1:=af (o:=.lst [.ref p]) nl;have e1:az H l (.lst [.ref p]) l=some (.lst [.ref p]):=ac;generalize az H l (.lst [.ref p])=H1 at*;have lg:=Wx.length;have l4:(ik sn).length<=1:=by
   match sn with
   |0=>decide
   |1=>decide
   |2=>decide
   |k+3=>exact JB 1
  refine⟨l,rfl,⟨_,NQ.of e1⟩,?_⟩;refine kE (K:=K) (a:=l) (xs:=[.ref p]) (fun i ys H'=>NJ H1 H'/\ys=(List.replicate (i*(ik sn).length) true).map V.bl) ⟨NJ.refl _,by rw[Nat.zero_mul];rfl⟩ (fun i ys H' hi⟨s2,hy⟩=>⟨NQ.of (s2 _ _ e1),by rw[hy,JC,JM];have:i*(ik sn).length<=1*1:=Nat.mul_le_mul hi l4;lia⟩) ?_ ?_
  ·rintro i u ys H2 Yi ⟨s2,hy⟩;cases i with
   |succ i=>cases Yi
   |zero=>
   cases Yi;rw[Nat.zero_mul]at hy;subst hy;have u2:=s1.trans s2;refine⟨trivial,_,rfl,p,_,_,_,rfl,rfl,NL.of (u2 _ _ hp),cn,q0,rfl,⟨_,NL.of (u2 _ _ hq)⟩,?_⟩;refine DQ (K:=K) (a:=q0) (xs:=gs) (fun j F' H'=>NJ H1 H'/\F'=(List.replicate j true).map V.bl) ⟨s2,rfl⟩ (fun j F' H' hj⟨s3,VB⟩=>⟨NL.of ((s1.trans s3) _ _ hq),by rw[VB,JC,JM];lia⟩) ?_ ?_
   ·rintro j v F' H3 Ws ⟨s3,rfl⟩;obtain⟨gd,Wy,hv⟩:=cM Wx Ws;have u3:=s1.trans s3;refine⟨⟨rfl,trivial⟩,bC ?_⟩;refine⟨_,rfl,v,gd,rfl,OQ.kt (ay u3) hv,Ie sn gd (JP Wy),fun H4 s4=>?_⟩;refine Nx.mk (JA.mp Ws).1 ⟨s3.trans s4,?_⟩;rw[v_,JR];rfl
   ·rintro F' H3 ⟨s3,rfl⟩;exact Nx.mk u_ ⟨s3,by rw[lg,Nat.zero_add,Nat.one_mul]⟩
  ·rintro ys H2 ⟨s2,rfl⟩ L nL;refine⟨L,List.replicate (1*(ik sn).length) true,rfl,NQ.of ac,?_⟩;have:(List.replicate (1*(ik sn).length) true).all id=true:=by simp
   rw[this];exact q _ ((s1.trans s2).trans (af nL))
end L3
namespace L2
open PySem PySem.Spec PyProof.Rows
def AQ{K:ZF}(Pv:Nat->UG->Hp->Prop)(h0:Pv 0 [] H)(hl:∀i ys H,i<=xs.length->Pv i ys H->NL K H a xs/\ys.length<=sizeLine)
  (hs:∀i x ys H,xs[i]?=some x->Pv i ys H->g x (eG ix σ) H fun σ2 H2=>Ob (eG ix σ) σ2/\Vx σ2 H2 fun J2 H3=>pH J2 g2 tf te σ2 ys H3 fun F' H4=>Nx Pv xs.length i F' H4)
  (hd:∀ys H,Pv xs.length ys H->∀D,H D=none->Q (.ref D) (az H D (.lst ys))):tu (Bf K a) g Vx g2 tf te ix σ H Q:=by
 refine⟨fun i m ys H=>m=xs.length-i/\i<=xs.length/\Pv i ys H,⟨xs.length,by simp,JN _,h0⟩,?_⟩;rintro i m ys H ⟨rfl,hi,p⟩;obtain⟨q,hz⟩:=hl i ys H hi p;by_cases Ld:i<xs.length
 ·refine .inr ⟨⟨xs,xs[i],q,by simp[Ld]⟩,fun x H' y=>?_⟩;obtain⟨e,y⟩:=y;subst e;exact hs i x ys _ (y xs q) p
 ·have e:i=xs.length:=by lia
  subst e;exact .inl ⟨⟨xs,q,JB _⟩,hz,hd ys H p⟩
end L2
namespace L3
open PySem L2
mutual
def tJ:PyData->Bool
 |.none=>true
 |.int _=>true
 |.str _=>true
 |.tuple xs=>i6 xs
 |_=>false
def i6:List PyData->Bool
 |[]=>true
 |x::r=>tJ x&&i6 r
end
mutual
def PQ:∀(a b:PyData),tJ a=true->tJ b=true->PyData.eqv a b=true->a=b
 |.none,.none,_,_,_=>rfl
 |.int i,.int j,_,_,h=>by
  have:i=j:=by simpa[PyData.eqv]using h
  rw[this]
 |.str x,.str y,_,_,h=>by
  have:x=y:=by simpa[PyData.eqv]using h
  rw[this]
 |.tuple xs,.tuple ys,ha,hb,h=>by
  have:=Qi xs ys (by simpa[tJ]using ha) (by simpa[tJ]using hb) (by simpa[PyData.eqv]using h);rw[this]
 |.none,.int _,_,_,h=>by simp[PyData.eqv]at h
 |.none,.str _,_,_,h=>by simp[PyData.eqv]at h
 |.none,.tuple _,_,_,h=>by simp[PyData.eqv]at h
 |.int _,.none,_,_,h=>by simp[PyData.eqv]at h
 |.int _,.str _,_,_,h=>by simp[PyData.eqv]at h
 |.int _,.tuple _,_,_,h=>by simp[PyData.eqv]at h
 |.str _,.none,_,_,h=>by simp[PyData.eqv]at h
 |.str _,.int _,_,_,h=>by simp[PyData.eqv]at h
 |.str _,.tuple _,_,_,h=>by simp[PyData.eqv]at h
 |.tuple _,.none,_,_,h=>by simp[PyData.eqv]at h
 |.tuple _,.int _,_,_,h=>by simp[PyData.eqv]at h
 |.tuple _,.str _,_,_,h=>by simp[PyData.eqv]at h
def Qi:∀(a b:List PyData),i6 a=true->i6 b=true->PyData.eqvAll a b=true->a=b
 |[],[],_,_,_=>rfl
 |x::xs,y::ys,ha,hb,h=>by
  simp only[i6,Kb]at ha hb;simp only[PyData.eqvAll,Kb]at h;rw[PQ x y ha.1 hb.1 h.1,Qi xs ys ha.2 hb.2 h.2]
 |[],_::_,_,_,h=>by simp[PyData.eqvAll]at h
 |_::_,[],_,_,h=>by simp[PyData.eqvAll]at h
end
mutual
def OT:∀(a:PyData),tJ a=true->PyData.eqv a a=true
 |.none,_=>by simp[PyData.eqv]
 |.int i,_=>by simp[PyData.eqv]
 |.str x,_=>by simp[PyData.eqv]
 |.tuple xs,h=>by
  simp only[PyData.eqv];exact OD xs (by simpa[tJ]using h)
def OD:∀(a:List PyData),i6 a=true->PyData.eqvAll a a=true
 |[],_=>by simp[PyData.eqvAll]
 |x::xs,h=>by
  simp only[i6,Kb]at h;simp only[PyData.eqvAll,OT x h.1,OD xs h.2,Bool.and_self]
end
abbrev nE:Stmt:=top 50
abbrev jG:Stmt:=top 49
abbrev im:Stmt:=top 126
abbrev io:Stmt:=top 67
abbrev gR:Stmt:=top 66
abbrev rH(n:Nat):UG:=List.replicate n .non
inductive kG(vs:UG)(H:Hp)(Q:VK)(Z3:XK):Prop
 |mk(v:V):vs=[v,.str Tn]->(∀l,H l=none->Q (.ref l) (az H l (.lst [.non])))->kG vs H Q Z3
inductive kH(C:Ux)(vs:UG)(H:Hp)(Q:VK)(Z3:XK):Prop
 |mk(v:V)(d n s:Nat)(e:Ee):vs=[v,.str Uv]->Tv C H v d n s e->n<=3->(∀l t H',NJ H H'->H' l=some (.lst [.ref t])->H' t=some (.tup (rH n))->Q (.ref l) H')->kH C vs H Q Z3
inductive Qt(H:Hp)(v:V)(n:Nat):Prop
 |mk(p t:Ux):v=.ref p->H p=some (.tup [.str Uv,.ref t])->H t=some (.tup (rH n))->Qt H v n
variable{H H':Hp}
def Qt.same{v:V}{n:Nat}(h:Qt H v n)(s:NJ H H'):Qt H' v n:=by obtain⟨p,t,a,b,c⟩:=h;exact ⟨p,t,a,s _ _ b,s _ _ c⟩
inductive gl(C:Ux)(vs:UG)(H:Hp)(Q:VK)(Z3:XK):Prop
 |mk(v:V)(d n s:Nat)(e:Ee):vs=[v]->Tv C H v d n s e->n<=3->(∀l x H',NJ H H'->H' l=some (.lst [x])->Qt H' x n->Q (.ref l) H')->gl C vs H Q Z3
inductive Jf(H:Hp)(v:V)(n i:Nat)(σ:St)(H':Hp):Prop
 |mk(l t:Ux)(v3 v4:Option V):σ=[some v,some (.str Uv),some (.ref l),v3,v4]->NJ H H'->H' l=some (.lst [.ref t])->H' t=some (.tup (rH i))->Jf H v n i σ H'
def vO(d n:Nat):PyData:=.tuple [.int ((9:Nat):Int),.int ((7:Nat):Int),.int (d:Int),.tuple [.str "a",.str "b"],.tuple [.str "m"],.none,.tuple [.str Uv],.tuple [.tuple ((jp n).map fun f=>.tuple [.str f.1,.str f.2])]]
inductive nF(K:ZF)(C:Ux)(vs:UG)(H:Hp)(Q:VK)(Z3:XK):Prop
 |mk(v:V)(d n s:Nat)(e:Ee):vs=[v]->Tv C H v d n s e->(∀u H',NJ H H'->Dt K H' u (vO d n)->Q u H')->nF K C vs H Q Z3
inductive fQ(C:Ux)(vs:UG)(H:Hp)(Q:VK)(Z3:XK):Prop
 |mk(v v2:V)(d n s s2:Nat)(e e2:Ee):vs=[v,v2]->Tv C H v d n s e->Tv C H v2 d n s2 e2->n<=3->(∀H',NJ H H'->Q (.bl true) H')->fQ C vs H Q Z3
def tK{K:ZF}:∀{us:UG}{fs:UF},Paired (Ot H) us fs->N4 K H us (fs.map fun f=>.tuple [.str f.1,.str f.2])
 |_,_,.nil=>.nil
 |_,_,.cons ⟨p,e,h⟩ r=>.cons (by subst e;exact .tup (NL.of h) (.cons (.str _) (.cons (.str _) .nil))) (tK r)
def Gh(h:n<=3):tJ (vO d n)=true:=by
 match n,h with
 |0,_=>rfl
 |1,_=>rfl
 |2,_=>rfl
 |3,_=>rfl
def yt(h:n<=3):(vO d n).canLay0=true:=by
 match n,h with
 |0,_=>simp[vO,jp,PyData.canLay0,PyData.canLayAll0];decide +kernel
 |1,_=>simp[vO,jp,PyData.canLay0,PyData.canLayAll0];decide +kernel
 |2,_=>simp[vO,jp,PyData.canLay0,PyData.canLayAll0,List.range,List.range.loop];decide +kernel
 |3,_=>simp[vO,jp,PyData.canLay0,PyData.canLayAll0,List.range,List.range.loop];decide +kernel
def DT(h:n<=3):(vO d n).depth<=60:=by
 match n,h with
 |0,_=>simp[vO,jp,PyData.depth,PyData.depthAll]
 |1,_=>simp[vO,jp,PyData.depth,PyData.depthAll]
 |2,_=>simp[vO,jp,PyData.depth,PyData.depthAll,List.range,List.range.loop]
 |3,_=>simp[vO,jp,PyData.depth,PyData.depthAll,List.range,List.range.loop]
variable{P:Uz}{w:UA}{K:ZF}{mg:Str->Option Uw}{base:Heap}{C fi aS aE aF aO:Ux}{t1 t2 t3 t4 t5 tM:Tok}
def Ij:al [SQ,Tg] [SQ,Tg] (ah nE):=bH zk
def vn(F:N1 K "numbers_for" "numbers_for" nE f fd)(B:Bl mg):NN P w K mg base br 1 f fd [SQ,Tg] kG:=by
 have ZZ:=Ij
 walk_at "o"
 ·obtain⟨v,rfl,q⟩:=h;refine⟨_,(ae (aM (ak aY (pv 1) aj) uh aw) (ag (am (bx (ak aY (pv 1) aj) (aV (gw rfl) (by rfl) B.list cm (aa (aV pJ (by rfl) B.range jm (aa (au aH (by rfl) B.len JI (aa (aK (pv 0) rfl) ab)) ab)) ab)) (bF (aa cN ab)))))),?_⟩;exact⟨_,rfl,rfl,_,rfl,aN zk ⟨_,rfl,rfl,_,rfl,aN zk ⟨N0,q⟩⟩⟩
def QC:al [SQ,S0,TV,"name",Tg] [SQ,S0] (ah jG):=bH zk
def Gi:(["ahead","number",Tg,SQ]:UD).Nodup:=by decide +kernel
def vo(F:N1 K "chosen_of" "chosen_of" jG f fd)(T:Tc K C)(FO:bB P w K mg base C "fields_of" 2 [SN,S0] (pE C))(NF:Fn P w K mg base "numbers_for" 1 [SQ,Tg] kG):NN P w K mg base br 3 f fd [SQ,S0] (kH C):=by
 have ZZ:=QC
 walk_at "o"
 ·obtain⟨v,d,n,sn,e,rfl,hT,hn,q⟩:=h;obtain⟨a,dx,pp,pm,pn,pk,us,rfl,ho,_⟩:=id hT.tb;have sz:(100:Nat)<=sizeLine:=by decide
  obtain⟨f1,K7,M1,F1,B1⟩:=FO;refine⟨_,(ae (bS (i:=2) QC.nd (bF (aa (av ab) ab))) (ae (cv f_ rfl (cK (aR (pv 0) (aa (pv 1) ab))) (bT rfl (aq (bM (i:=3) QC.nd) (aq (ju (i:=4) QC.nd rfl (Or.inr rfl)) bi))) (ag (lN (i:=2) QC.nd rfl rfl (N':=["ahead","number",Tg,SQ]) (ix:=[none,none,some 4,some 0]) (sc0:=ah jG) (N:=[SQ,S0,TV,"name",Tg]) rfl zk (bV (pv 2)) (fun C cl s H fp=>(bM (i:=0) Gi)) (fun C cl s H fp=>(kD (K:=K) rfl (ap NF hr.m rfl (aa (pv 3) (aa (pv 2) ab))))) (fun C cl s H fp=>(bM (i:=1) Gi)) (fun C cl s H fp=>bz) (fun C cl s H fp=>(aX (yp (K:=K) rfl) (pv 0) (av (aa (pv 1) ab))))))) (ag (am (pv 2))))),?_⟩;refine⟨N0,fun t0 nt0=>⟨N0,fun l0 nl0=>?_⟩⟩;have s0:=af (o:=.tup []) nt0;have e0:az H t0 (.tup []) t0=some (.tup []):=ac;generalize az H t0 (.tup [])=H0 at*;have XN:=af (o:=.lst [.ref t0]) nl0;have e1:az H0 l0 (.lst [.ref t0]) l0=some (.lst [.ref t0]):=ac;generalize az H0 l0 (.lst [.ref t0])=H1 at*;have s1:=s0.trans XN;refine⟨_,rfl,a,dx,C,f1,_,K7,2,[SN,S0],_,rfl,s1 _ _ ho,rfl,T.cl,M1,F1,hr,B1,_,rfl,_,_,jF n sn e,rfl,hT.tb.same s1,hT.ok,hT.kn,fun tf fu Vb Vc=>?_⟩;have WA:fu.length=n:=by rw[Vc.length];unfold jF jp;simp
  refine⟨tf,rfl,⟨_,NL.of Vb⟩,?_⟩;refine dJ (K:=K) (a:=tf) (xs:=fu) (fun i σ H'=>Jf H1 (.ref a) n i σ H') ⟨l0,t0,none,none,rfl,NJ.refl _,e1,XN _ _ e0⟩ (fun i σ H' _⟨_,_,_,_,_,s',_,_⟩=>NL.of (s' _ _ Vb)) ?_ ?_
  ·rintro i u σ H2 Yi ⟨l,t,v3,v4,rfl,s2,el,et⟩;obtain⟨fx,Yu,pf,rfl,Xt⟩:=cM Vc Yi;have hi:i<n:=by rw[<-WA];exact(JA.mp Yi).1
   have hfr:fx.2=Tn:=by
    have:fx∈jp n:=JP Yu;obtain⟨j,_,rfl⟩:=Ks.mp this;rfl
   refine⟨pf,_,rfl,NL.of (s2 _ _ Xt),rfl,_,_,rfl,_,_,rfl,rfl,?_⟩;refine⟨_,rfl,l,rfl,⟨_,NQ.of el⟩,?_⟩;refine kE (K:=K) (a:=l) (xs:=[.ref t]) (fun j ys H'=>NJ H2 H'/\((j=0/\ys=[])\/(j=1/\∃t2,ys=[.ref t2]/\H' t2=some (.tup (rH (i+1)))))) ⟨NJ.refl _,.inl ⟨rfl,rfl⟩⟩ (fun j ys H' hj⟨s3,hy⟩=>⟨NQ.of (s3 _ _ el),by rcases hy with⟨_,rfl⟩|⟨_,_,rfl,_⟩;exact JN _;show 1<=sizeLine;lia⟩) ?_ ?_
   ·rintro j u ys H3 Xr ⟨s3,hy⟩;cases j with
    |succ j=>cases Xr
    |zero=>
    cases Xr;rcases hy with⟨_,rfl⟩|⟨z,_⟩
    ·refine⟨⟨rfl,rfl,trivial⟩,_,rfl,_,rfl,_,by rw[hfr],fun ln nln=>?_⟩;have s4:=af (o:=.lst [.non]) nln;have e4:az H3 ln (.lst [.non]) ln=some (.lst [.non]):=ac;generalize az H3 ln (.lst [.non])=H4 at*;refine⟨ln,rfl,⟨_,NQ.of e4⟩,?_⟩;refine nz (K:=K) (a:=ln) (xs:=[.non]) (fun k F' H'=>NJ H4 H'/\((k=0/\F'=[])\/(k=1/\∃t2,F'=[.ref t2]/\H' t2=some (.tup (rH (i+1)))))) ⟨NJ.refl _,.inl ⟨rfl,rfl⟩⟩ (fun k F' H' hk⟨s5,hy⟩=>⟨NQ.of (s5 _ _ e4),by rcases hy with⟨_,rfl⟩|⟨_,_,rfl,_⟩;exact JN _;show 1<=sizeLine;lia⟩) ?_ ?_
     ·rintro k x F' H5 Yh ⟨s5,VB⟩;cases k with
      |succ k=>cases Yh
      |zero=>
      cases Yh;rcases VB with⟨_,rfl⟩|⟨z,_⟩
      ·refine⟨⟨rfl,rfl,rfl,trivial⟩,bC ?_⟩;refine⟨_,rfl,_,rfl,N0,fun t6 n6=>?_⟩;have s6:=af (o:=.tup [.non]) n6;have e6:az H5 t6 (.tup [.non]) t6=some (.tup [.non]):=ac;generalize az H5 t6 (.tup [.non])=H6 at*;have et6:=(((s3.trans s4).trans s5).trans s6) _ _ et;refine⟨t,t6,_,_,rfl,rfl,NL.of et6,NL.of e6,by simp,by rw[JM];show i+1<=_;lia,fun h0=>?_,fun _ p7 n7=>?_⟩
       ·have i0:i=0:=by cases i with|zero=>rfl|succ i=>cases h0
        subst i0;exact Nx.mk u_ ⟨s5.trans s6,.inr ⟨rfl,t6,rfl,e6⟩⟩
       ·exact Nx.mk u_ ⟨(s5.trans s6).trans (af n7),.inr ⟨rfl,p7,rfl,by rw[ac,<-v_]⟩⟩
      ·cases z
     ·rintro F' H5 ⟨s5,VB⟩;rcases VB with⟨z,_⟩|⟨_,t2,rfl,h2⟩
      ·cases z
      ·exact Nx.mk u_ ⟨(s3.trans s4).trans s5,.inr ⟨rfl,t2,rfl,h2⟩⟩
    ·cases z
   ·rintro ys H3 ⟨s3,hy⟩ L nL;rcases hy with⟨z,_⟩|⟨_,t2,rfl,h2⟩
    ·cases z
    ·have s4:=af (o:=.lst [.ref t2]) nL;exact⟨L,t2,_,_,rfl,(s2.trans s3).trans s4,ac,s4 _ _ h2⟩
  ·rintro σ H2 ⟨l,t,v3,v4,rfl,s2,el,et⟩;rw[WA]at et;exact⟨_,rfl,q l t H2 (s1.trans s2) el et⟩
def Ik:al [SQ] [SQ] (ah im):=bH zk
def Gj:([S0,SW,SQ]:UD).Nodup:=by decide +kernel
def rJ(F:N1 K "choices_of" "choices_of" im f fd)(T:Tc K C)(CH:Fn P w K mg base "chosen_of" 3 [SQ,S0] (kH C)):NN P w K mg base br 4 f fd [SQ] (gl C):=by
 have ZZ:=Ik
 walk_at "o"
 ·obtain⟨v,d,n,sn,e,rfl,hT,hn,q⟩:=h;obtain⟨a,dx,pp,pm,pn,pk,us,rfl,ho,T',UK,U3,_⟩:=id hT.tb;have sz:(100:Nat)<=sizeLine:=by decide
  refine⟨_,(ag (am (rm (N':=[S0,SW,SQ]) (ix:=[none,none,some 0]) (sc0:=ah im) (N:=[SQ]) rfl zk (cK (aK (pv 0) rfl)) (fun C cl s H fp=>(bM (i:=0) Gj)) (fun C cl s H fp=>(kD (K:=K) rfl (ap CH hr rfl (aa (pv 2) (aa (pv 0) ab))))) (fun C cl s H fp=>(bM (i:=1) Gj)) (fun C cl s H fp=>bz) (fun C cl s H fp=>(av (aa (pv 0) (aa (pv 1) ab))))))),?_⟩;have U3:H pn=some (.tup [.str Uv]):=U3;refine⟨_,rfl,a,C,dx,_,_,rfl,ho,T.cl,T.na TM zk,rfl,pn,rfl,⟨_,NL.of U3⟩,?_⟩;refine AQ (K:=K) (a:=pn) (xs:=[.str Uv]) (fun j ys H'=>NJ H H'/\((j=0/\ys=[])\/(j=1/\∃x,ys=[x]/\Qt H' x n))) ⟨NJ.refl _,.inl ⟨rfl,rfl⟩⟩ (fun j ys H' hj⟨s3,hy⟩=>⟨NL.of (s3 _ _ U3),by rcases hy with⟨_,rfl⟩|⟨_,_,rfl,_⟩;exact JN _;show 1<=sizeLine;lia⟩) ?_ ?_
  ·rintro j u ys H3 Xr ⟨s3,hy⟩;cases j with
   |succ j=>cases Xr
   |zero=>
   cases Xr;rcases hy with⟨_,rfl⟩|⟨z,_⟩
   ·refine⟨⟨rfl,trivial⟩,_,rfl,_,rfl,_,d,n,sn,e,rfl,hT.same s3,hn,fun l t H4 s4 el et=>?_⟩;refine⟨l,rfl,⟨_,NQ.of el⟩,?_⟩;refine nz (K:=K) (a:=l) (xs:=[.ref t]) (fun k F' H'=>NJ H4 H'/\((k=0/\F'=[])\/(k=1/\∃x,F'=[x]/\Qt H' x n))) ⟨NJ.refl _,.inl ⟨rfl,rfl⟩⟩ (fun k F' H' hk⟨s5,hy⟩=>⟨NQ.of (s5 _ _ el),by rcases hy with⟨_,rfl⟩|⟨_,_,rfl,_⟩;exact JN _;show 1<=sizeLine;lia⟩) ?_ ?_
    ·rintro k x F' H5 Yh ⟨s5,VB⟩;cases k with
     |succ k=>cases Yh
     |zero=>
     cases Yh;rcases VB with⟨_,rfl⟩|⟨z,_⟩
     ·refine⟨⟨rfl,rfl,trivial⟩,bC ?_⟩;refine⟨_,rfl,_,rfl,N0,fun t6 n6=>?_⟩;have s6:=af (o:=.tup [.str Uv,.ref t]) n6;exact Nx.mk u_ ⟨s5.trans s6,.inr ⟨rfl,_,rfl,t6,t,rfl,ac,(s5.trans s6) _ _ et⟩⟩
     ·cases z
    ·rintro F' H5 ⟨s5,VB⟩;rcases VB with⟨z,_⟩|⟨_,x,rfl,h2⟩
     ·cases z
     ·exact Nx.mk u_ ⟨(s3.trans s4).trans s5,.inr ⟨rfl,x,rfl,h2⟩⟩
   ·cases z
  ·rintro ys H3 ⟨s3,hy⟩ L nL;rcases hy with⟨z,_⟩|⟨_,x,rfl,h2⟩
   ·cases z
   ·have s4:=af (o:=.lst [x]) nL;exact q L x _ (s3.trans s4) ac (h2.same s4)
def Ry:al [SQ,TU] [SQ] (ah io):=bH zk
def Il:([S0,SQ]:UD).Nodup:=by decide +kernel
def yu(F:N1 K "shape_of" "shape_of" io f fd)(T:Tc K C)(B:Bl mg)(FO:bB P w K mg base C "fields_of" 2 [SN,S0] (pE C)):NN P w K mg base br 3 f fd [SQ] (nF K C):=by
 have ZZ:=Ry
 walk_at "o"
 ·obtain⟨v,d,n,sn,e,rfl,hT,q⟩:=h;obtain⟨a,dx,pp,pm,pn,pk,us,rfl,ho,T',UK,U3,_⟩:=id hT.tb;have sz:(100:Nat)<=sizeLine:=by decide
  obtain⟨f1,K7,M1,F1,B1⟩:=FO;refine⟨_,(ae (bS (i:=1) Ry.nd (aV bh (by rfl) B.tuple aZ (aa (cI (N':=[S0,SQ]) (ix:=[none,some 0]) (sc0:=ah io) (N:=[SQ,TU]) rfl zk (cK (aK (pv 0) rfl)) (fun _ _ _ _ _=>(bM (i:=0) Il)) (fun _ _ _ _ _=>bz) (fun _ _ _ _ _=>(ma (pv 1) T.cl M1 F1 hr B1 .nil dR (aa (pv 0) ab)))) ab))) (ag (am (av (aa (aK (pv 0) rfl) (aa (aK (pv 0) rfl) (aa (aK (pv 0) rfl) (aa (aK (pv 0) rfl) (aa (aK (pv 0) rfl) (aa (aK (pv 0) rfl) (aa (aK (pv 0) rfl) (aa (pv 1) ab)))))))))))),?_⟩;have U3:H pn=some (.tup [.str Uv]):=U3;have T':H pp=some (.tup [.str "a",.str "b"]):=T';have UK:H pm=some (.tup [.str "m"]):=UK;refine⟨_,rfl,a,C,dx,_,_,rfl,ho,T.cl,T.na TM zk,rfl,pn,rfl,⟨_,NL.of U3⟩,?_⟩;refine iH (K:=K) (a:=pn) (xs:=[.str Uv]) (fun i ys H'=>NJ H H'/\((i=0/\ys=[])\/(i=1/\∃tf fu,ys=[.ref tf]/\H' tf=some (.tup fu)/\Paired (Ot H') fu (jp n)))) ⟨NJ.refl _,.inl ⟨rfl,rfl⟩⟩ (fun i ys H' hi⟨s',e'⟩=>⟨NL.of (s' _ _ U3),by rcases e' with⟨_,rfl⟩|⟨_,_,_,rfl,_⟩;exact JN _;show 1<=sizeLine;lia⟩) ?_ ?_
  ·rintro i x ys H2 hx ⟨s2,pr⟩;cases i with
   |succ i=>cases hx
   |zero=>
   cases hx;rcases pr with⟨_,rfl⟩|⟨z,_⟩
   ·refine⟨⟨rfl,trivial⟩,bC ⟨_,rfl,a,dx,_,rfl,s2 _ _ ho,rfl,_,rfl,_,_,jF n sn e,rfl,hT.tb.same s2,hT.ok,hT.kn,fun tf fu Vb Vc=>?_⟩⟩;exact Nx.mk u_ ⟨s2,.inr ⟨rfl,tf,fu,rfl,Vb,Vc⟩⟩
   ·cases z
  ·rintro ys H2 ⟨s2,pr⟩ l3 n3;rcases pr with⟨z,_⟩|⟨_,tf,fu,rfl,Vb,Vc⟩
   ·cases z
   have s3:=af (o:=.lst [.ref tf]) n3;have e3:az H2 l3 (.lst [.ref tf]) l3=some (.lst [.ref tf]):=ac;generalize az H2 l3 (.lst [.ref tf])=H3 at*;refine⟨l3,_,rfl,.inl ⟨NQ.of e3,fun t4 n4=>?_⟩⟩;have s4:=af (o:=.tup [.ref tf]) n4;have e4:az H3 t4 (.tup [.ref tf]) t4=some (.tup [.ref tf]):=ac;generalize az H3 t4 (.tup [.ref tf])=H4 at*;have Wq:=s2.trans (s3.trans s4);have U5:=Wq _ _ ho;have fl:=fun(x:Str)h=>T.na x h;refine⟨_,rfl,a,C,dx,_,_,rfl,U5,T.cl,fl SV zk,rfl,_,rfl,a,C,dx,_,_,rfl,U5,T.cl,fl S1 zk,rfl,_,rfl,a,C,dx,_,_,rfl,U5,T.cl,fl S9 zk,rfl,_,rfl,a,C,dx,_,_,rfl,U5,T.cl,fl SZ zk,rfl,_,rfl,a,C,dx,_,_,rfl,U5,T.cl,fl S5 zk,rfl,_,rfl,a,C,dx,_,_,rfl,U5,T.cl,fl TQ zk,rfl,_,rfl,a,C,dx,_,_,rfl,U5,T.cl,fl TM zk,rfl,_,rfl,N0,fun r nr=>?_⟩;have s5:=af (o:=.tup [.int ((9:Nat):Int),.int ((7:Nat):Int),.int (d:Int),.ref pp,.ref pm,.non,.ref pn,.ref t4]) nr;have e5:az H4 r (.tup [.int ((9:Nat):Int),.int ((7:Nat):Int),.int (d:Int),.ref pp,.ref pm,.non,.ref pn,.ref t4]) r=some (.tup [.int ((9:Nat):Int),.int ((7:Nat):Int),.int (d:Int),.ref pp,.ref pm,.non,.ref pn,.ref t4]):=ac;have W9:=Wq.trans s5;have X8:=(s3.trans s4).trans s5;exact q _ _ W9 (.tup (NL.of e5) (.cons (.int _) (.cons (.int _) (.cons (.int _) (.cons (.tup (NL.of (W9 _ _ T')) (.cons (.str _) (.cons (.str _) .nil))) (.cons (.tup (NL.of (W9 _ _ UK)) (.cons (.str _) .nil)) (.cons .non (.cons (.tup (NL.of (W9 _ _ U3)) (.cons (.str _) .nil)) (.cons (.tup (NL.of (s5 _ _ e4)) (.cons (.tup (NL.of (X8 _ _ Vb)) (tK (bW (fun _ _ h=>Ot.kt (ay X8) h) Vc))) .nil)) .nil)))))))))
def Im:al [Th,S4] [Th,S4] (ah gR):=bH zk
def nG(F:N1 K "same_shape" "same_shape" gR f fd)(SH:Fn P w K mg base "shape_of" 3 [SQ] (nF K C)):NN P w K mg base br 4 f fd [Th,S4] (fQ C):=by
 have ZZ:=Im
 walk_at "o"
 ·obtain⟨v,v2,d,n,sn,sn2,e,e2,rfl,h1,h2,hn,q⟩:=h;refine⟨_,(ag (am (bK (Pd hr) (ap SH hr rfl (aa (pv 0) ab)) (ap SH hr rfl (aa (pv 1) ab))))),?_⟩;refine⟨_,rfl,v,d,n,sn,e,rfl,h1,fun u1 H1 s1 d1=>⟨_,rfl,v2,d,n,sn2,e2,rfl,h2.same s1,fun u2 H2 s2 d2=>?_⟩⟩;refine⟨_,_,Dt.same s2 d1,d2,yt hn,yt hn,J4 (L_ _ _) (DT hn),?_⟩;rw[OT _ (Gh hn)];exact q _ (s1.trans s2)
end L3
namespace L2
open PySem PySem.Spec PyProof.Rows
inductive Io(K:ZF)(H:Hp)(x:V)(t:Uw):Prop
 |ty:gA K H x t->Io K H x t
 |sq (a:Ux) (ys:UG):x=.ref a->NL K H a ys->t=.type "tuple"->Io K H x t
variable{X:Cx}
def rK{T:String}:cH X (.builtin "isinstance") (fun xs H Q=>∃x t b,xs=[x,.ty T]/\Io X.K H x t/\PySem.W.kitOne X.K t (.type T)=some b/\Q (.bl b) H):=by
 intro K3 s σ H xs us Q I r h;obtain⟨x,t,b,rfl,ty,e,q⟩:=h;cases ty with
 |ty ty=>exact dn K3 s σ H _ us Q I r ⟨x,t,b,rfl,ty,e,q⟩
 |sq a ys hx ha ht=>
  subst hx ht;cases r with
  |cons r0 rr=>
   cases rr with
   |cons r1 rr=>
    cases rr;cases r1;cases r0;obtain⟨f',_,p1,_⟩:=I.tuple ha;obtain⟨o,h1,h2,_⟩:=p1;exact Kf PySem.W.kitx_tuple I.kIn ⟨o,h1,h2⟩ e (fun z=>nomatch z) fun tk=>⟨.bl b,H,I.tok _,rfl,q⟩
def rL{e:Expr}:PE X e (fun _ _ _=>False):=⟨fun _ _ _ _ _ _ h=>h.elim⟩
end L2
namespace L3
open PySem L2
abbrev nI:Stmt:=top 125
abbrev yw:Stmt:=top 127
abbrev nJ:Stmt:=top 122
abbrev tO:Stmt:=top 133
abbrev rM:Stmt:=top 135
abbrev rN:Stmt:=top 134
abbrev nK:Stmt:=top 132
abbrev jH:Stmt:=top 131
def i7:Nat->PyData->Bool
 |_,.none=>true
 |_,.int _=>true
 |_,.str s=>GY s
 |m+1,.tuple xs=>xs.all (i7 m)
 |_,_=>false
mutual
def dZ:∀(x:PyData)(m:Nat),i7 m x=true->tJ x=true/\x.canLay0=true/\x.depth<=m
 |.none,m,_=>by
  refine⟨rfl,rfl,?_⟩;rw[PyData.depth.eq_4];exact JN _
 |.int i,m,_=>by
  refine⟨rfl,rfl,?_⟩;simp[PyData.depth]
 |.str s,m,h=>by
  refine⟨rfl,?_,?_⟩
  ·cases m<;>exact h
  ·simp[PyData.depth]
 |.tuple xs,0,h=>by cases h
 |.tuple xs,m+1,h=>by
  obtain⟨a,b,c⟩:=yx xs m h;refine⟨a,?_,?_⟩
  ·rw[PyData.canLay0.eq_6];exact b
  ·rw[PyData.depth.eq_2];lia
 |.bool _,m,h=>by cases m<;>cases h
 |.list _,m,h=>by cases m<;>cases h
 |.dict _,m,h=>by cases m<;>cases h
def yx:∀(xs:List PyData)(m:Nat),xs.all (i7 m)=true->i6 xs=true/\PyData.canLayAll0 xs=true/\PyData.depthAll xs<=m
 |[],m,_=>by refine⟨rfl,rfl,?_⟩;simp[PyData.depthAll]
 |x::xs,m,h=>by
  rw[RU,Kb]at h;obtain⟨a,b,c⟩:=dZ x m h.1;obtain⟨a2,b2,c2⟩:=yx xs m h.2;refine⟨by simp[i6,a,a2],by simp[PyData.canLayAll0,b,b2],?_⟩;rw[PyData.depthAll.eq_2];lia
end
section
variable{H:Hp}{K:ZF}
def OB:∀{us:UG}{ds:List PyData},N4 K H us ds->us.length=ds.length/\∀(i:Nat)(u:V),us[i]?=some u->∃d,ds[i]?=some d/\Dt K H u d
 |_,_,.nil=>⟨rfl,fun i u h=>by cases h⟩
 | _,_,.cons a b=>⟨by rw[JX,JX,(OB b).1],fun i u h=>by
   cases i with
   |zero=>cases h;exact⟨_,rfl,a⟩
   | succ i=>exact(OB b).2 i u h⟩
variable{v:V}
def QJ{xs:List PyData}(h:Dt K H v (.tuple xs)):∃a us,v=.ref a/\NL K H a us/\N4 K H us xs:=by
 cases h with
 |tup a b=>exact⟨_,_,rfl,a,b⟩
def Rq{m:Nat}:∀{x:PyData},i7 m x=true->(∃xs,x=.tuple xs)\/∀v,Dt K H v x->∃t,gA K H v t/\PySem.W.kitOne K t (.type "tuple")=some false/\PySem.W.kitOne K t (.type "bool")=some false
 |.none,_=>.inr fun v h=>by cases h;exact⟨_,.non,rfl,rfl⟩
 |.int i,_=>.inr fun v h=>by cases h;exact⟨_,.int i,rfl,rfl⟩
 |.str s,_=>.inr fun v h=>by cases h;exact⟨_,.str s,rfl,rfl⟩
 |.tuple xs,_=>.inl ⟨_,rfl⟩
 |.bool _,j=>by cases m<;>cases j
 |.list _,j=>by cases m<;>cases j
 |.dict _,j=>by cases m<;>cases j
def Pz{H H':Hp}{a:Ux}{xs:UG}(s:NJ H H')(h:NL K H a xs):NL K H' a xs:=by
 rcases h with(e|⟨o,e⟩)|r
 ·exact .inl (.inl (s _ _ e))
 ·exact .inl (.inr ⟨o,s _ _ e⟩)
 ·exact .inr r
def P0:Nat->PyData->Bool
 |m+1,.tuple xs=>decide (xs.length<=20)&&xs.all (P0 m)
 |0,.tuple _=>false
 |_,_=>true
inductive P7(K:ZF)(m:Nat)(vs:UG)(H:Hp)(Q:VK):Prop
 |mk(v u:V)(x:PyData):vs=[v,u]->Dt K H v x->Dt K H u x->i7 m x=true->P0 m x=true->m<=20->(∀H',NJ H H'->Q (.bl true) H')->P7 K m vs H Q
def O2(K:ZF):Nat->Sp
 |0=>hZ
 |m+1=>fun vs H Q _=>P7 K m vs H Q
inductive Oy(C:Ux)(vs:UG)(H:Hp)(Q:VK)(Z3:XK):Prop
 |mk(v v2:V)(d n s s2:Nat)(e e2:Ee):vs=[v,v2]->Tv C H v d n s e->Tv C H v2 d n s2 e2->n<=3->(∀H',NJ H H'->Q .non H')->Oy C vs H Q Z3
inductive Pc(C:Ux)(vs:UG)(H:Hp)(Q:VK)(Z3:XK):Prop
 |mk(v ch u:V)(d n s:Nat)(e:Ee):vs=[v,.str Uv,ch,u]->Tv C H v d n s e->(∀b,QS H b s e->Q b H)->Pc C vs H Q Z3
inductive O1(vs:UG)(H:Hp)(Q:VK)(Z3:XK):Prop
 |mk(p:Ux)(x:V):vs=[.ref p,.str TD,.int 2]->H p=some (.tup [.str TD,x])->Q (.bl true) H->O1 vs H Q Z3
def Os(n:Nat)(e:Ee):Prop:=n<=3/\e∈cQ n
def Rv:∀n:Fin 4,∀e∈cQ n.1,(i7 1 (kW e)&&P0 1 (kW e))=true/\(i7 1 (kW (oE 0 e))&&P0 1 (kW (oE 0 e)))=true:=by decide +kernel
def OI{d n s:Nat}{e:Ee}(h:Os n e):i7 6 (gQ d s e)=true/\P0 6 (gQ d s e)=true:=by
 have h1:=Rv ⟨n,by have:=h.1;lia⟩ e h.2;have mono:∀{e':Ee},(i7 1 (kW e')&&P0 1 (kW e'))=true->i7 5 (kW e')=true/\P0 5 (kW e')=true:=by
  intro e' h;rw[Kb]at h;cases e' with
  |w0 s=>exact h
  |fault z=>exact h
  |go s j=>exact h
 have h2:i7 5 (kW (oE d e))=true/\P0 5 (kW (oE d e))=true:=by
  cases d with
  |zero=>exact mono h1.2
  |succ d=>exact mono h1.1
 have hp:GY SU=true:=by decide +kernel
 have hc:∀c k:Nat,i7 4 (ym c k)=true/\P0 4 (ym c k)=true:=fun c k=>⟨by simp[ym,Gc,i7,hp],by simp[ym,Gc,P0]⟩;have hb:i7 4 (DL s)=true/\P0 4 (DL s)=true:=by unfold DL;split<;>decide +kernel
 have he:i7 5 (DM s)=true/\P0 5 (DM s)=true:=by unfold DM;split<;>decide +kernel
 constructor
 ·simp only[gQ,i7,RU,List.all_nil,h2.1,(hc _ _).1,hb.1,he.1,Bool.and_self]
 ·simp[gQ,P0,h2.2,(hc _ _).2,hb.2,he.2]
def chD(n:Nat):PyData:=.tuple [.str Uv,.tuple (List.replicate n .none)]
def Ru:∀n:Fin 4,i7 6 (chD n.1)=true/\P0 6 (chD n.1)=true:=by decide +kernel
def P9:∀n,N4 K H (rH n) (List.replicate n .none)
 |0=>.nil
 |n+1=>.cons .non (P9 n)
variable{n:Nat}
def Qt.dt(h:Qt H v n):Dt K H v (chD n):=by
 obtain⟨p,t,rfl,hp,ht⟩:=h;exact .tup (NL.of hp) (.cons (.str _) (.cons (.tup (NL.of ht) (P9 n)) .nil))
inductive Pl(K:ZF)(C:Ux)(vs:UG)(H:Hp)(Q:VK)(Z3:XK):Prop
 |mk(v x ef:V)(a:Ux)(d n s:Nat)(e:Ee):vs=[v,x,.ref a,ef]->Tv C H v d n s e->Os n e->Qt H x n->H a=some (.tup [])->Dt K H ef (gQ d s e)->(∀H',NJ H H'->Q (.bl true) H')->Pl K C vs H Q Z3
inductive Po(K:ZF)(C:Ux)(vs:UG)(H:Hp)(Q:VK)(Z3:XK):Prop
 |mk(v v2 x ef:V)(a pc:Ux)(d n s:Nat)(e e2:Ee):vs=[v,v2,x,.ref a,.ref pc]->Tv C H v d n s e->Tv C H v2 d n s e2->Os n e->Os n e2->gQ d s e=gQ d s e2->Qt H x n->H a=some (.tup [])->H pc=some (.tup [.str TD,ef])->Dt K H ef (gQ d s e)->(∀H',NJ H H'->Q (.bl true) H')->Po K C vs H Q Z3
inductive Qy(K:ZF)(H:Hp)(v:V)(n:Nat)(x:PyData):Prop
 |mk(p t c:Ux)(ef:V):v=.ref p->H p=some (.tup [.str Uv,.ref t,.ref c])->H t=some (.tup (rH n))->H c=some (.tup [.str TD,ef])->Dt K H ef x->Qy K H v n x
def Qy.same{H H':Hp}{x:PyData}(h:Qy K H v n x)(s:NJ H H'):Qy K H' v n x:=by obtain⟨p,t,c,ef,a,b,d,f,g⟩:=h;exact ⟨p,t,c,ef,a,s _ _ b,s _ _ d,s _ _ f,Dt.same s g⟩
inductive OR(K:ZF)(C:Ux)(vs:UG)(H:Hp)(Q:VK)(Z3:XK):Prop
 |mk(v v2 x y:V)(d n s:Nat)(e e2:Ee):vs=[v,v2,x,y]->Tv C H v d n s e->Tv C H v2 d n s e2->Os n e->Os n e2->gQ d s e=gQ d s e2->Qt H x n->Qy K H y n (gQ d s e)->(∀H',NJ H H'->Q (.bl true) H')->OR K C vs H Q Z3
inductive OY(K:ZF)(C:Ux)(vs:UG)(H:Hp)(Q:VK)(Z3:XK):Prop
 |mk(v v2 y:V)(l:Ux)(d n s:Nat)(e e2:Ee):vs=[v,v2,.ref l]->Tv C H v d n s e->Tv C H v2 d n s e2->Os n e->Os n e2->gQ d s e=gQ d s e2->H l=some (.lst [y])->Qy K H y n (gQ d s e)->(∀H',NJ H H'->Q (.bl true) H')->OY K C vs H Q Z3
variable{P:Uz}{w:UA}{K:ZF}{mg:Str->Option Uw}{base:Heap}{C fi aS aE aF aO:Ux}{t1 t2 t3 t4 t5 tM:Tok}
def RB:al [Th,S4,S0] [Th,S4] (ah nI):=bH zk
def Qr(F:N1 K "need_plain" "need_plain" nI f fd)(T:Tc K C)(SS:Fn P w K mg base "same_shape" 4 [Th,S4] (fQ C))(IP:Fn P w K mg base "is_plain" 4 [SQ,S0] (i5 C)):NN P w K mg base br 5 f fd [Th,S4] (Oy C):=by
 have ZZ:=RB
 walk_at "o"
 ·obtain⟨v,v2,d,n,sn,s2,e,e2,rfl,h1,h2,hn,q⟩:=h;obtain⟨a,dx,pp,pm,pn,pk,us,rfl,ho,T',UK,U3,_⟩:=id h1.tb;have U3:H pn=some (.tup [.str Uv]):=U3;refine⟨_,(ae (aM (bP (bE (ap SS hr rfl (aa (pv 0) (aa (pv 1) ab))))) (ag aU) aw) (ag (cv f_ rfl (cK (aK (pv 0) rfl)) (bM (i:=2) RB.nd) (ag (aM (PW.pt (de (bP (bE (ap IP hr rfl (aa (pv 0) (aa (pv 2) ab))))) (cX (bP (bE (ap IP hr rfl (aa (pv 1) (aa (pv 2) ab)))))))) (ag aU) aw))))),?_⟩;refine⟨_,rfl,_,rfl,_,v2,d,n,sn,s2,e,e2,rfl,h1,h2,hn,fun H1 s1=>⟨_,rfl,bJ ?_⟩⟩;refine⟨_,rfl,a,C,dx,_,_,rfl,s1 _ _ ho,T.cl,T.na TM zk,rfl,pn,rfl,⟨_,NL.of (s1 _ _ U3)⟩,?_⟩;refine dJ (K:=K) (a:=pn) (xs:=[.str Uv]) (fun i σ H'=>∃g:Option V,σ=[some (.ref a),some v2,g]/\NJ H H') ⟨_,rfl,s1⟩ (fun i σ H' _⟨_,_,s'⟩=>NL.of (s' _ _ U3)) ?_ ?_
  ·rintro i x σ H2 hx ⟨g,rfl,s2⟩;cases i with
   |succ i=>cases hx
   |zero=>
   cases hx;refine⟨_,rfl,_,rfl,_,d,n,sn,e,rfl,h1.same s2,fun H3 s3=>⟨_,rfl,bJ ?_⟩⟩;exact⟨_,rfl,_,rfl,_,d,n,_,e2,rfl,h2.same (s2.trans s3),fun H4 s4=>⟨_,rfl,bJ ⟨_,rfl,(s2.trans s3).trans s4⟩⟩⟩
  ·rintro σ H2 ⟨g,rfl,s2⟩;exact q _ s2
def RA:al [SQ,S0,SW,SX,TL,"truth"] [SQ,S0,SW,SX] (ah yw):=bH zk
def QY(F:N1 K "come_to" "come_to" yw f fd)(T:Tc K C)(DX:bB P w K mg base C TL 2 [SN,S0] (gk C)):NN P w K mg base br 3 f fd [SQ,S0,SW,SX] (Pc C):=by
 have ZZ:=RA
 walk_at "o"
 ·obtain⟨v,ch,u,d,n,sn,e,rfl,hT,q⟩:=h;obtain⟨a,dx,pp,pm,pn,pk,us,rfl,ho,_⟩:=id hT.tb;obtain⟨f1,K7,M1,F1,B1⟩:=DX;refine⟨_,(ae (bS (i:=4) RA.nd (aR (pv 0) (aa (pv 1) ab))) (ae (df f_ (ak aY (ax ar (pv 4) ai) aj) (ae aU (ae aU (ag aU)))) (ag (am (pv 4))))),?_⟩;refine⟨_,rfl,a,dx,C,f1,_,K7,2,[SN,S0],_,rfl,ho,rfl,T.cl,M1,F1,hr,B1,_,rfl,_,_,jF n sn e,rfl,hT.tb,hT.ok,hT.kn,fun b hb=>?_⟩;have hL:=QS.of hb;obtain⟨p,q0,gs,ue,rfl,hp,_⟩:=id hL;refine⟨fun _ σ' H'=>σ'=[some (.ref a),some (.str Uv),some ch,some u,some (.ref p),none]/\H'=H,⟨0,rfl,rfl⟩,?_⟩;rintro m σ H' ⟨rfl,rfl⟩;exact⟨_,rfl,p,_,_,_,rfl,rfl,NL.of hp,bf,rfl,_,rfl,aN zk ⟨_,rfl,q _ hL⟩⟩
def scIh:al [S6,S8,T8] [S6,S8,T8] (ah nJ):=bH zk
def Qn(F:N1 K "is_headed" "is_headed" nJ f fd)(B:Bl mg):NN P w K mg base br 1 f fd [S6,S8,T8] O1:=by
 have ZZ:=scIh
 walk_at "o"
 ·obtain⟨p,x,rfl,hp,q⟩:=h;refine⟨_,(ag (am (cP (au (dn (T:="tuple")) (by rfl) B.isinstance ce (aa (pv 0) (aa (dU (by rfl) B.tuple aZ) ab))) (cP (bK aY (au aH (by rfl) B.len JI (aa (pv 0) ab)) (pv 2)) (cO (bK aY (ax ar (pv 0) ai) (pv 1))))))),?_⟩;refine⟨_,rfl,_,_,_,rfl,.tup hp,rfl,_,rfl,eQ ?_⟩;refine⟨_,rfl,p,_,rfl,.inr (NL.of hp),_,rfl,rfl,_,rfl,bj (b_ rfl) ?_⟩;exact⟨_,rfl,p,_,_,_,rfl,rfl,NL.of hp,bf,_,rfl,rfl,q⟩
def scJu:al [S6,TV] [S6,TV] (ah tO):=bH zk
def Rr:(["part","wanted"]:UD).Nodup:=by decide +kernel
def Oi(F:N1 K "is_just" "is_just" tO f fd)(B:Bl mg)(B4:G0 mg)(IJ:Fn P w K mg base "is_just" n [S6,TV] (O2 K m)):NN P w K mg base br (n+1) f fd [S6,TV] (O2 K (m+1)):=by
 have ZZ:=scJu
 walk_at "o"
 ·obtain⟨v,u,x,rfl,hv,hu,hj,hs,hm,q⟩:=h;have hr0:NZ 0 _:=hr.mono (JN _);have sz:(100:Nat)<=sizeLine:=by decide
  obtain⟨j1,j2,j3⟩:=dZ x _ hj;refine⟨_,(ae (aM (bP (bE (au (rK (T:="tuple")) (by rfl) B.isinstance ce (aa (pv 1) (aa (dU (by rfl) B.tuple aZ) ab))))) (ag (am (cP (bK (Pd hr) (pv 0) (pv 1)) (cO (vT (au (rK (T:="bool")) (by rfl) B.isinstance ce (aa (pv 0) (aa (dU (by rfl) B.bool ke) ab)))))))) aw) (ae (aM (PW.pt (de (bP (bE (au (rK (T:="tuple")) (by rfl) B.isinstance ce (aa (pv 0) (aa (dU (by rfl) B.tuple aZ) ab))))) (cX (ak fb (au aH (by rfl) B.len JI (aa (pv 0) ab)) (au aH (by rfl) B.len JI (aa (pv 1) ab)))))) (ag (am cq)) aw) (ag (am (au (cY rfl) (by rfl) B.all cG (aa (cI (N':=["part","wanted"]) (ix:=[none,none]) (sc0:=ah tO) (N:=[S6,TV]) rfl zk (mY true true rfl B4.zip (aa (pv 0) (aa (pv 1) ab))) (fun _ _ _ _ _=>(c9 (K:=K) (n:=2) rfl rfl (aq (bM (i:=0) Rr) (aq (bM (i:=1) Rr) bi)))) (fun _ _ _ _ _=>bz) (fun _ _ _ _ _=>(ap IJ hr rfl (aa (pv 0) (aa (pv 1) ab))))) ab)))))),?_⟩;rcases Rq (K:=K) (H:=H) hj with⟨xs,rfl⟩|ht
  ·obtain⟨a,us,rfl,ha,K9⟩:=QJ hu;obtain⟨b,vs,rfl,hb,hvs⟩:=QJ hv;obtain⟨l1,g1⟩:=OB K9;obtain⟨l2,g2⟩:=OB hvs;refine⟨_,rfl,_,_,_,rfl,.sq a us rfl ha rfl,rfl,_,rfl,bJ ?_⟩;refine⟨_,rfl,_,_,_,rfl,.sq b vs rfl hb rfl,rfl,_,rfl,bJ ?_⟩;refine⟨_,rfl,b,_,rfl,.inr hb,_,rfl,a,_,rfl,.inr ha,rfl,_,rfl,aN (by rw[l1,l2];simp) ?_⟩;cases m with
   |zero=>cases hj
   |succ m=>
   have hj':xs.all (i7 m)=true:=hj;have WM:(decide (xs.length<=20)&&xs.all (P0 m))=true:=hs;rw[Kb]at WM;have h20:xs.length<=20:=j_ WM.1;refine⟨_,rfl,_,rfl,b,a,rfl,⟨_,hb⟩,⟨_,ha⟩,?_⟩;refine mZ (b1:=true) (b2:=true) (K:=K) (l1:=b) (l2:=a) (xs:=vs) (ys:=us) (by rw[l1,l2]) (fun i F' H'=>NJ H H'/\F'=(List.replicate i true).map V.bl) ⟨NJ.refl _,rfl⟩ (fun i F' H' hi⟨s1,e1⟩=>⟨Pz s1 hb,Pz s1 ha,by rw[e1,JC,JM];lia⟩) ?_ ?_
   ·rintro i x y F' H' T1 hx hy nT ⟨s1,rfl⟩;obtain⟨dx,hdx,dtx⟩:=g2 i x hx;obtain⟨dy,hdy,dty⟩:=g1 i y hy;have ed:dx=dy:=by rw[hdx]at hdy;exact JS hdy
    subst ed;have YT:=JP hdx;have s2:=af (o:=.tup [x,y]) nT;have Lc:=s1.trans s2;refine⟨T1,_,rfl,NL.of ac,rfl,_,_,rfl,_,_,rfl,rfl,trivial,bC ?_⟩;refine⟨_,rfl,_,rfl,x,y,dx,rfl,Dt.same Lc dtx,Dt.same Lc dty,Ki.mp hj' dx YT,Ki.mp WM.2 dx YT,zo,fun H3 s3=>?_⟩;refine Nx.mk (JA.mp hx).1 ⟨Lc.trans s3,?_⟩;rw[v_,JR];rfl
   ·rintro F' H' ⟨s1,rfl⟩ D' VX;refine⟨D',List.replicate vs.length true,rfl,NQ.of ac,?_⟩;have:(List.replicate vs.length true).all id=true:=by simp
    rw[this];exact q _ (s1.trans (af VX))
  ·obtain⟨t,Yj,k1,_⟩:=ht u hu;obtain⟨t2,hty2,_,k4⟩:=ht v hv;refine⟨_,rfl,_,_,_,rfl,.ty Yj,k1,_,rfl,eQ ?_⟩;refine⟨_,rfl,_,rfl,x,x,hv,hu,j2,j2,J4 (L_ _ _) zo,?_⟩;rw[OT _ j1];exact⟨_,rfl,eQ ⟨_,rfl,_,_,_,rfl,.ty hty2,k4,_,rfl,q _ (NJ.refl _)⟩⟩
end
section
variable{P:Uz}{w:UA}{K:ZF}{mg:Str->Option Uw}{base:Heap}{C fi aS aE aF aO:Ux}{t1 t2 t3 t4 t5 tM:Tok}
def QV:al [SQ,TJ,SX,"effect",S0,SW,TL] [SQ,TJ,SX,"effect"] (ah rM):=bH zk
def yy(F:N1 K "leaf_holds" "leaf_holds" rM f fd)(CO:Fn P w K mg base "come_to" 3 [SQ,S0,SW,SX] (Pc C))(EF:Fn P w K mg base "effect_of" 6 [SQ,SW,SX,TD] (tH K C))(IJ:Fn P w K mg base "is_just" 7 [S6,TV] (O2 K 7)):NN P w K mg base br 8 f fd [SQ,TJ,SX,"effect"] (Pl K C):=by
 have ZZ:=QV
 walk_at "o"
 ·obtain⟨v,x,ef,a,d,n,sn,e,rfl,hT,hk,⟨p,t,rfl,hp,ht⟩,ha,WB,q⟩:=h;refine⟨_,(ae (cu (pv 1) (bT rfl (aq (bM (i:=4) QV.nd) (aq (bM (i:=5) QV.nd) bi)))) (ae (bS (i:=6) QV.nd (ap CO hr.m rfl (aa (pv 0) (aa (pv 4) (aa (pv 5) (aa (pv 2) ab)))))) (ag (am (cP (bK aY (ax ar (pv 6) ai) aj) (cO (ap IJ hr rfl (aa (pv 3) (aa (ap EF hr.m rfl (aa (pv 0) (aa (pv 5) (aa (pv 2) (aa (pv 6) ab))))) ab))))))))),?_⟩;refine⟨_,rfl,p,_,rfl,NL.of hp,rfl,_,_,rfl,_,_,rfl,rfl,?_⟩;refine⟨_,rfl,_,rfl,_,rfl,_,rfl,v,.ref t,.ref a,d,n,sn,e,rfl,hT,fun b hb=>?_⟩;obtain⟨pb,q0,gs,ue,rfl,XU,_⟩:=id hb;refine⟨_,rfl,pb,_,_,_,rfl,rfl,NL.of XU,bf,rfl,_,rfl,eQ ?_⟩;refine⟨_,rfl,_,rfl,_,rfl,_,rfl,_,rfl,v,.ref t,.ref pb,a,lQ d n sn e,sn,e,rfl,hT.tb,rfl,rfl,rfl,ha,hb,fun x H1 s1 hx=>?_⟩;exact⟨ef,x,gQ d sn e,rfl,Dt.same s1 WB,hx,(OI hk).1,(OI hk).2,zd,fun H2 s2=>q _ (s1.trans s2)⟩
def Gk:al [Th,S4,TJ,SX,"case","yes","no"] [Th,S4,TJ,SX,"case"] (ah rN):=bH zk
def yz(F:N1 K "case_holds" "case_holds" rN f fd)(IH:Fn P w K mg base "is_headed" 1 [S6,S8,T8] O1)(LH:Fn P w K mg base "leaf_holds" 8 [SQ,TJ,SX,"effect"] (Pl K C)):NN P w K mg base br 9 f fd [Th,S4,TJ,SX,"case"] (Po K C):=by
 have ZZ:=Gk
 walk_at "o"
 ·obtain⟨v,v2,x,ef,a,pc,d,n,sn,e,e2,rfl,h1,h2,k1,k2,he,hx,ha,hpc,WB,q⟩:=h;refine⟨_,(ae (aM (bE (ap IH hr.m rfl (aa (pv 4) (aa aj (aa ai ab))))) (ag (am (cP (ap LH hr rfl (aa (pv 0) (aa (pv 2) (aa (pv 3) (aa (ax ar (pv 4) ai) ab))))) (cO (ap LH hr rfl (aa (pv 1) (aa (pv 2) (aa (pv 3) (aa (ax ar (pv 4) ai) ab))))))))) aw) (ae aU (ae aU (ae aU (ag aU))))),?_⟩;refine⟨_,rfl,pc,ef,rfl,hpc,⟨_,rfl,eQ ?_⟩⟩;refine⟨_,rfl,_,rfl,_,rfl,_,rfl,pc,_,_,_,rfl,rfl,NL.of hpc,cn,v,x,ef,a,d,n,sn,e,rfl,h1,k1,hx,ha,WB,fun H1 s1=>⟨_,rfl,eQ ?_⟩⟩;exact⟨_,rfl,_,rfl,_,rfl,_,rfl,pc,_,_,_,rfl,rfl,NL.of (s1 _ _ hpc),cn,v2,x,ef,a,d,n,sn,e2,rfl,h2.same s1,k2,hx.same s1,s1 _ _ ha,by rw[<-he];exact Dt.same s1 WB,fun H2 s2=>q _ (s1.trans s2)⟩
def Ip:al [Th,S4,TJ,"entry"] [Th,S4,TJ,"entry"] (ah nK):=bH zk
def vq(F:N1 K "entry_holds" "entry_holds" nK f fd)(B:Bl mg)(IJ:Fn P w K mg base "is_just" 7 [S6,TV] (O2 K 7))(CH:Fn P w K mg base "case_holds" 9 [Th,S4,TJ,SX,"case"] (Po K C)):NN P w K mg base br 10 f fd [Th,S4,TJ,"entry"] (OR K C):=by
 have ZZ:=Ip
 walk_at "o"
 ·obtain⟨v,v2,x,y,d,n,sn,e,e2,rfl,h1,h2,k1,k2,he,hx,⟨p,t,c,ef,rfl,hp,ht,hc,WB⟩,q⟩:=h;have jc:=Ru ⟨n,by have:=k1.1;lia⟩;refine⟨_,(ae (aM (PW.pt (de (bP (bE (au (dn (T:="tuple")) (by rfl) B.isinstance ce (aa (pv 3) (aa (dU (by rfl) B.tuple aZ) ab))))) (de (ak fb (au aH (by rfl) B.len JI (aa (pv 3) ab)) ai) (cX (bP (bE (ap IJ hr.m rfl (aa (cB wq (pv 3) dN (cy ai)) (aa (pv 2) ab))))))))) (ag (am cq)) aw) (ag (am (ap CH hr rfl (aa (pv 0) (aa (pv 1) (aa (pv 2) (aa (av ab) (aa (ax ar (pv 3) ai) ab))))))))),?_⟩;refine⟨_,rfl,_,_,_,rfl,.tup hp,rfl,_,rfl,bJ ?_⟩;refine⟨_,rfl,p,_,rfl,.inr (NL.of hp),rfl,_,rfl,aN (by simp) ?_⟩;refine⟨_,rfl,_,rfl,p,_,rfl,NL.of hp,by show¬(HT.sIx 3 0 none=0/\HT.sIx 3 3 (some 2)=3);decide,fun p1 n1=>?_⟩;generalize hz:az H p1 _=H1;have⟨s1,e1⟩:=nw n1 hz;clear hz;have e1:H1 p1=some (.tup [.str Uv,.ref t]):=e1;refine⟨_,rfl,_,x,chD n,rfl,Qt.dt ⟨p1,t,rfl,e1,s1 _ _ ht⟩,(hx.same s1).dt,jc.1,jc.2,zd,fun H2 s2=>⟨_,rfl,bJ ?_⟩⟩;have UX:=s1.trans s2;refine⟨_,rfl,_,rfl,_,rfl,N0,fun t3 n3=>?_⟩;have s3:=af (o:=.tup []) n3;have e3:az H2 t3 (.tup []) t3=some (.tup []):=ac;generalize az H2 t3 (.tup [])=H3 at*;have Vj:=UX.trans s3;exact⟨_,rfl,p,_,_,_,rfl,rfl,NL.of (Vj _ _ hp),ic,v,v2,x,ef,t3,c,d,n,sn,e,e2,rfl,h1.same Vj,h2.same Vj,k1,k2,he,hx.same Vj,e3,Vj _ _ hc,Dt.same Vj WB,fun H4 s4=>q _ (Vj.trans s4)⟩
def RP:al [Th,S4,"paper",TH] [Th,S4,"paper"] (ah jH):=bH zk
def BQ:([TJ,"entry",Th,S4]:UD).Nodup:=by decide +kernel
def vt(F:N1 K "alike_holds" "alike_holds" jH f fd)(B:Bl mg)(B4:G0 mg)(NP:Fn P w K mg base "need_plain" 5 [Th,S4] (Oy C))(CS:Fn P w K mg base "choices_of" 4 [SQ] (gl C))(EH:Fn P w K mg base "entry_holds" 10 [Th,S4,TJ,"entry"] (OR K C)):NN P w K mg base br 11 f fd [Th,S4,"paper"] (OY K C):=by
 have ZZ:=RP
 walk_at "o"
 ·obtain⟨v,v2,y,l,d,n,sn,e,e2,rfl,h1,h2,k1,k2,he,hl,hy,q⟩:=h;have sz:(100:Nat)<=sizeLine:=by decide
  refine⟨_,(ae (aQ (ap NP hr.m rfl (aa (pv 0) (aa (pv 1) ab)))) (ae (bS (i:=3) RP.nd (ap CS hr.m rfl (aa (pv 0) ab))) (ae (aM (PW.pt (de (bP (bE (au (dn (T:="list")) (by rfl) B.isinstance ce (aa (pv 2) (aa (dU (by rfl) B.list cm) ab))))) (cX (ak fb (au aH (by rfl) B.len JI (aa (pv 2) ab)) (au aH (by rfl) B.len JI (aa (pv 3) ab)))))) (ag (am cq)) aw) (ag (am (au (cY rfl) (by rfl) B.all cG (aa (cI (N':=[TJ,"entry",Th,S4]) (ix:=[none,none,some 0,some 1]) (sc0:=ah jH) (N:=[Th,S4,"paper",TH]) rfl zk (mY false false rfl B4.zip (aa (pv 3) (aa (pv 2) ab))) (fun _ _ _ _ _=>(c9 (K:=K) (n:=2) rfl rfl (aq (bM (i:=0) BQ) (aq (bM (i:=1) BQ) bi)))) (fun _ _ _ _ _=>bz) (fun _ _ _ _ _=>(ap EH hr rfl (aa (pv 2) (aa (pv 3) (aa (pv 0) (aa (pv 1) ab))))))) ab))))))),?_⟩;refine⟨_,rfl,_,rfl,v,v2,d,n,sn,sn,e,e2,rfl,h1,h2,k1.1,fun H1 s1=>?_⟩;refine⟨_,rfl,v,d,n,sn,e,rfl,h1.same s1,k1.1,fun lc x H2 s2 V4 hx=>?_⟩;have UX:=s1.trans s2;have V':=UX _ _ hl;refine⟨_,rfl,_,_,_,rfl,.lst V',rfl,_,rfl,bJ ?_⟩;refine⟨_,rfl,l,_,rfl,.inl (NQ.of V'),_,rfl,lc,_,rfl,.inl (NQ.of V4),rfl,_,rfl,aN (by simp) ?_⟩;refine⟨_,rfl,_,rfl,lc,l,rfl,⟨_,NQ.of V4⟩,⟨_,NQ.of V'⟩,?_⟩;refine mZ (b1:=false) (b2:=false) (K:=K) (l1:=lc) (l2:=l) (xs:=[x]) (ys:=[y]) rfl (fun i F' H'=>NJ H2 H'/\F'=(List.replicate i true).map V.bl) ⟨NJ.refl _,rfl⟩ (fun i F' H' hi⟨s1,e1⟩=>⟨NQ.of (s1 _ _ V4),NQ.of (s1 _ _ V'),by rw[e1,JC,JM];have:i<=1:=hi;lia⟩) ?_ ?_
  ·rintro i x' y' F' H' T1 Vl VB nT ⟨s3,rfl⟩;cases i with
   |succ i=>cases Vl
   |zero=>
   cases Vl;cases VB;have s4:=af (o:=.tup [x,y]) nT;have ZV:=s3.trans s4;have Wq:=UX.trans ZV;refine⟨T1,_,rfl,NL.of ac,rfl,_,_,rfl,_,_,rfl,rfl,⟨rfl,rfl,trivial⟩,bC ?_⟩;exact⟨_,rfl,_,rfl,_,rfl,_,rfl,v,v2,x,y,d,n,sn,e,e2,rfl,h1.same Wq,h2.same Wq,k1,k2,he,hx.same ZV,hy.same Wq,fun H5 s5=>Nx.mk u_ ⟨ZV.trans s5,rfl⟩⟩
  ·rintro F' H' ⟨s3,rfl⟩ D' VX;refine⟨D',[true],rfl,NQ.of ac,?_⟩;exact q _ ((UX.trans s3).trans (af VX))
end
abbrev fR:Stmt:=top 80
abbrev nM:Stmt:=bO hI 1
abbrev nN:Stmt:=bO hI 2
abbrev kI:Stmt:=bO hI 3
inductive DU(H:Hp)(v at_:V)(ps ms cs ls:UG)(wd ft:V):Prop
 |mk(t tp tm tc tl:Ux):v=.ref t->H t=some (.tup [wd,ft,at_,.ref tp,.ref tm,.ref tc,.ref tl])->H tp=some (.tup ps)->H tm=some (.tup ms)->H tc=some (.tup cs)->H tl=some (.tup ls)->DU H v at_ ps ms cs ls wd ft
section
variable{wd ft:V}{at_:V}{H:Hp}
def Ow.putX{C:Ux}{x dx p m c l:Ux}{ps ms cs ls:UG}(h:Ow C H x dx p m c l at_ ps ms cs ls wd ft)(at' W7 XA:V):Ow C (az H x (.ins C dx (BJ at' p m c l W7 XA))) x dx p m c l at' ps ms cs ls W7 XA:=by
 have nx:∀{a:Ux}{us:UG},H a=some (.lst us)->a≠x:=fun g e=>by rw[e,h.ex]at g;cases g
 exact⟨ac,by rw[ao (nx h.ep)];exact h.ep,by rw[ao (nx h.em)];exact h.em,by rw[ao (nx h.ec)];exact h.ec,by rw[ao (nx h.el)];exact h.el,h.pm,h.pc,h.pl,h.mc,h.ml,h.cl⟩
variable{v:V}
def rO{p m c l:Ux}:aT Ui v (BJ at_ p m c l wd ft)=BJ v p m c l wd ft:=rfl
def yA{p m c l:Ux}:aT S8 v (BJ at_ p m c l wd ft)=BJ at_ p m c l v ft:=rfl
def yB{p m c l:Ux}:aT S3 v (BJ at_ p m c l wd ft)=BJ at_ p m c l wd v:=rfl
def On{x:Ux}{o:HO}:NX x H (az H x o):=fun b u e n=>by rw[ao n];exact e
inductive kJ(C:Ux)(vs:UG)(H:Hp)(Q:VK)(Z3:XK):Prop
 |mk(x dx p m c l:Ux)(at_:V)(ps ms cs ls:UG)(wd ft:V):vs=[.ref x]->Ow C H x dx p m c l at_ ps ms cs ls wd ft->(∀v H',NJ H H'->DU H' v at_ ps ms cs ls wd ft->Q v H')->kJ C vs H Q Z3
inductive ip(C:Ux)(vs:UG)(H:Hp)(Q:VK)(Z3:XK):Prop
 |mk(x dx p m c l:Ux)(at_:V)(ps ms cs ls:UG)(wd ft:V):vs=[.ref x]->Ow C H x dx p m c l at_ ps ms cs ls wd ft->(∀H' x' Vu p' m' c' l',NJ H H'->Ow C H' x' Vu p' m' c' l' at_ ps ms cs ls wd ft->H x'=none->H p'=none->H m'=none->H c'=none->H l'=none->Q (.ref x') H')->ip C vs H Q Z3
inductive dw(C:Ux)(vs:UG)(H:Hp)(Q:VK)(Z3:XK):Prop
 |mk(x dx p m c l:Ux)(at_:V)(ps ms cs ls:UG)(wd ft W7 XA:V):vs=[.ref x,W7,XA]->Ow C H x dx p m c l at_ ps ms cs ls wd ft->(∀H',Ow C H' x dx p m c l at_ ps ms cs ls W7 XA->NX x H H'->Q .non H')->dw C vs H Q Z3
variable{P:Uz}{w:UA}{K:ZF}{mg:Str->Option Uw}{base:Heap}{C fi aS aE aF aO:Ux}{t1 t2 t3 t4 t5 tM:Tok}
def Qz:al [SN,"lists"] [SN] (ah nM):=bH zk
variable{fd:UC}{f:Ux}
def AR(F:N1 K TV "State.told" nM f fd)(T:Sc K C)(B:Bl mg):NN P w K mg base br 1 f fd [SN] (kJ C):=by
 have ZZ:=Qz
 walk_at "o"
 ·obtain⟨x,dx,p,m,c,l,at_,ps,ms,cs,ls,wd,ft,rfl,hO,q⟩:=h;refine⟨_,ae (bS (i:=1) Qz.nd (av (aa (aV bh (by rfl) B.tuple aZ (aa (aK (pv 0) rfl) ab)) (aa (aV bh (by rfl) B.tuple aZ (aa (aK (pv 0) rfl) ab)) (aa (aV bh (by rfl) B.tuple aZ (aa (aK (pv 0) rfl) ab)) (aa (aV bh (by rfl) B.tuple aZ (aa (aK (pv 0) rfl) ab)) ab)))))) (ag (am (aX sE (av (aa (aK (pv 0) rfl) (aa (aK (pv 0) rfl) (aa (aK (pv 0) rfl) ab)))) (pv 1)))),?_⟩;refine⟨_,rfl,x,C,dx,_,_,rfl,hO.ex,T.cl,T.n2,rfl,p,ps,rfl,.inl ⟨NQ.of hO.ep,fun tp n1=>?_⟩⟩;generalize zz:az H tp _=H1;have⟨s1,e1⟩:=nw n1 zz;clear zz;have h1:=hO.same s1;refine⟨_,rfl,x,C,dx,_,_,rfl,h1.ex,T.cl,T.n3,rfl,m,ms,rfl,.inl ⟨NQ.of h1.em,fun tm n2=>?_⟩⟩;generalize zz:az H1 tm _=H2;have⟨s2,e2⟩:=nw n2 zz;clear zz;have h2:=h1.same s2;refine⟨_,rfl,x,C,dx,_,_,rfl,h2.ex,T.cl,T.n4,rfl,c,cs,rfl,.inl ⟨NQ.of h2.ec,fun tc n3=>?_⟩⟩;generalize zz:az H2 tc _=H3;have⟨s3,e3⟩:=nw n3 zz;clear zz;have h3:=h2.same s3;refine⟨_,rfl,x,C,dx,_,_,rfl,h3.ex,T.cl,T.n5,rfl,l,ls,rfl,.inl ⟨NQ.of h3.el,fun tl n4=>?_⟩⟩;generalize zz:az H3 tl _=H4;have⟨s4,e4⟩:=nw n4 zz;clear zz;refine⟨N0,fun t4 n5=>?_⟩;have s5:=af (o:=.tup [.ref tp,.ref tm,.ref tc,.ref tl]) n5;have e5:(az H4 t4 (.tup [.ref tp,.ref tm,.ref tc,.ref tl])) t4=some (.tup [.ref tp,.ref tm,.ref tc,.ref tl]):=ac;generalize az H4 t4 (.tup [V.ref tp,.ref tm,.ref tc,.ref tl])=H5 at*;have h5:=(h3.same s4).same s5;refine⟨_,rfl,x,C,dx,_,_,rfl,h5.ex,T.cl,T.n6,rfl,_,rfl,x,C,dx,_,_,rfl,h5.ex,T.cl,T.n7,rfl,_,rfl,x,C,dx,_,_,rfl,h5.ex,T.cl,T.n1,rfl,N0,fun t5 n6=>?_⟩;generalize zz:az H5 t5 _=H6;have⟨s6,e6⟩:=nw n6 zz;clear zz;refine⟨_,rfl,t5,t4,_,_,rfl,rfl,NL.of e6,NL.of (s6 _ _ e5),(fun z=>by cases z),N0,(fun z=>by cases z),fun _ t7 n7=>?_⟩;have s7:=af (o:=.tup ([wd,ft,at_]++[.ref tp,.ref tm,.ref tc,.ref tl])) n7;have e7:az H6 t7 (.tup ([wd,ft,at_]++[.ref tp,.ref tm,.ref tc,.ref tl])) t7=some (.tup [wd,ft,at_,.ref tp,.ref tm,.ref tc,.ref tl]):=ac;have VH:=s5.trans (s6.trans s7);exact q _ _ (s1.trans (s2.trans (s3.trans (s4.trans VH)))) ⟨t7,tp,tm,tc,tl,rfl,e7,VH _ _ (s4 _ _ (s3 _ _ (s2 _ _ e1))),VH _ _ (s4 _ _ (s3 _ _ e2)),VH _ _ (s4 _ _ e3),VH _ _ e4⟩
def vy:al [SN,S8,S3] [SN,S8,S3] (ah kI):=bH zk
def rP(F:N1 K "end_with" "State.end_with" kI f fd)(T:Sc K C):NN P w K mg base br 1 f fd [SN,S8,S3] (dw C):=by
 have ZZ:=vy
 walk_at "o"
 ·obtain⟨x,dx,p,m,c,l,at_,ps,ms,cs,ls,wd,ft,W7,XA,rfl,hO,q⟩:=h;refine⟨_,ae (bQ (pv 0) (pv 1) rfl) (ag (bQ (pv 0) (pv 2) rfl)),?_⟩;refine⟨_,rfl,_,rfl,x,C,dx,_,rfl,hO.ex,T.cl,T.n6,(by show 7<1000;decide),?_⟩;rw[yA];have h1:=hO.putX at_ W7 ft;refine⟨_,rfl,_,rfl,x,C,dx,_,rfl,h1.ex,T.cl,T.n7,(by show 7<1000;decide),?_⟩;rw[yB];exact q _ (h1.putX at_ W7 XA) (On.trans On)
def PH:al [SN,S4] [SN] (ah nN):=bH zk
def vz{fd Wg:UC}(F:N1 K "copied" "State.copied" nN f fd)(T:Sc K C)(MK:Mk K C fi)(mgS:mg "State"=some (.ref C))(IN:NN P w K mg base br 1 fi Wg [SN,Ui,SZ,S5,S1,Ud] (Au C))(bI:N7 K Wg [SN,Ui,SZ,S5,S1,Ud] []):NN P w K mg base br 3 f fd [SN] (ip C):=by
 have ZZ:=PH
 walk_at "o"
 ·obtain⟨x,dx,p,m,c,l,at_,ps,ms,cs,ls,wd,ft,rfl,hO,q⟩:=h;refine⟨_,ae (bS (i:=1) PH.nd (gU MK IN hr.m rfl mgS bI .nil dR (aa (aK (pv 0) rfl) (aa (aK (pv 0) rfl) (aa (aK (pv 0) rfl) (aa (aK (pv 0) rfl) (aa (aK (pv 0) rfl) ab))))))) (ae (bQ (pv 1) (aK (pv 0) rfl) rfl) (ae (bQ (pv 1) (aK (pv 0) rfl) rfl) (ag (am (pv 1))))),?_⟩;refine⟨_,rfl,x,C,dx,_,_,rfl,hO.ex,T.cl,T.n1,rfl,_,rfl,x,C,dx,_,_,rfl,hO.ex,T.cl,T.n2,rfl,_,rfl,x,C,dx,_,_,rfl,hO.ex,T.cl,T.n3,rfl,_,rfl,x,C,dx,_,_,rfl,hO.ex,T.cl,T.n4,rfl,_,rfl,x,C,dx,_,_,rfl,hO.ex,T.cl,T.n5,rfl,fun x' Vu nx nd ne=>?_⟩;have sx:=bq (o:=.ins C Vu []) nx (af (o:=.own x') nd);refine⟨x',Vu,p,m,c,l,at_,ps,ms,cs,ls,rfl,ac,sx _ _ hO.ep,sx _ _ hO.em,sx _ _ hO.ec,sx _ _ hO.el,fun H1 p' m' c' l' h1 np nm nc nl b1=>⟨rfl,?_⟩⟩;have s1:NJ H H1:=cD nx sx b1;have hx:=s1 _ _ hO.ex;have xx:x≠x':=aI hO.ex nx;refine⟨_,rfl,x,C,dx,_,_,rfl,hx,T.cl,T.n6,rfl,_,rfl,x',C,Vu,_,rfl,h1.ex,T.cl,T.n6,(by show 7<1000;decide),?_⟩;rw[yA];have h2:=h1.putX at_ wd .non;refine⟨_,rfl,x,C,dx,_,_,rfl,(by rw[ao xx];exact hx),T.cl,T.n7,rfl,_,rfl,x',C,Vu,_,rfl,h2.ex,T.cl,T.n7,(by show 7<1000;decide),?_⟩;rw[yB];exact⟨_,rfl,q _ x' Vu p' m' c' l' (bq nx (bq nx s1)) (h2.putX at_ wd ft) nx (none_of sx np) (none_of sx nm) (none_of sx nc) (none_of sx nl)⟩
abbrev Iq(tk:Tok):List Uw->List Uw->List Uw
 |[u],[a,b,c]=>[u,.int 0 tk,a,b,c,.none]
 |_,_=>[]
abbrev Gm:UG->UG->UG
 |[u],[a,b,c]=>[u,.int 0,a,b,c,.non]
 |_,_=>[]
def Gn{tk:Tok}(F:O8 K "state_of" "state_of" dk (DA tk) f fd):qj K fd Dz [SZ,S5,S1] (Iq tk) Gm:=by
 obtain⟨oc,od,kV,doc,pm,an,Lb,ct,U7,d,o,n,rfl,lk,U8,hd,hs⟩:=F.ex;refine⟨fun s us ws KX hl=>?_,fun h1 h2=>?_⟩
 ·match us,ws,hl with
  |[u],[a,b,c],_=>exact BindsTo.of_defaults rfl (KX d o hd) hs rfl rfl
  |[],_,hl=>cases hl
  |_::_::_,_,hl=>cases hl
  |[_],[],hl=>cases hl
  |[_],[_],hl=>cases hl
  |[_],[_,_],hl=>cases hl
  |[_],_::_::_::_::_,hl=>cases hl
 ·cases h1 with
  |nil=>exact .nil
  |cons a r=>
   cases r with
   |cons b r=>exact .nil
   |nil=>
    cases h2 with
    |nil=>exact .nil
    |cons c r2=>
     cases r2 with
     |nil=>exact .nil
     |cons d r3=>
      cases r3 with
      |nil=>exact .nil
      |cons e r4=>
       cases r4 with
       |cons b r=>exact .nil
       |nil=>exact .cons a (.cons ⟨_,rfl⟩ (.cons c (.cons d (.cons e (.cons rfl .nil)))))
inductive yC(C Cs:Ux)(vs:UG)(H:Hp)(Q:VK)(Z3:XK):Prop
 |mk(v:V)(d n s:Nat)(e:Ee)(lp lm lc:Ux):vs=[v,.int 0,.ref lp,.ref lm,.ref lc,.non]->Tv C H v d n s e->H lp=some (.lst (z0 2))->H lm=some (.lst (z0 1))->H lc=some (.lst (z0 7))->(∀H' x dx p m c l,NJ H H'->Ow Cs H' x dx p m c l (.int 0) (z0 2) (z0 1) (z0 7) (z0 0) (.str "on") .non->Q (.ref x) H')->yC C Cs vs H Q Z3
def i8(n:Nat):UE:=(List.range n).map (10+·)
inductive QR(H:Hp)(v:V)(n:Nat):Prop
 |mk(p t:Ux):v=.ref p->H p=some (.tup [.str Uv,.ref t])->H t=some (.tup (fM (i8 n)))->QR H v n
def QR.same{H H':Hp}{n:Nat}(h:QR H v n)(s:NJ H H'):QR H' v n:=by obtain⟨p,t,a,b,c⟩:=h;exact ⟨p,t,a,s _ _ b,s _ _ c⟩
inductive yD(C:Ux)(vs:UG)(H:Hp)(Q:VK)(Z3:XK):Prop
 |mk(v u:V)(d n s:Nat)(e:Ee):vs=[v,u]->Tv C H v d n s e->n<=3->QR H u n->(∀H',NJ H H'->Q .non H')->yD C vs H Q Z3
inductive yE(C Cs:Ux)(vs:UG)(H:Hp)(Q:VK)(Z3:XK):Prop
 |mk(v u:V)(d n s:Nat)(e:Ee)(x dx p m c l:Ux)(at_:V)(ps ms cs ls:UG)(ft:V):vs=[v,.ref x,u]->Tv C H v d n s e->n<=3->QR H u n->Ow Cs H x dx p m c l at_ ps ms cs ls (.str "on") ft->(∀H',NJ H H'->Q .non H')->yE C Cs vs H Q Z3
def Go(h:n<=3):FX (lQ d n s e) 999 ⟨jF n s e,i8 n⟩:=by
 refine⟨JL.mpr rfl,?_⟩;have hb:∀o,o<13->o<Ar (lQ d n s e) 999 Tn:=fun o ho=>by
  have:Ar (lQ d n s e) 999 Tn=1000:=by unfold Ar;rw[e_ zk,e_ zk,e_ zk]
  lia
 match n,h with
 |0,_=>exact .nil
 |1,_=>exact .cons (hb 10 zd) .nil
 |2,_=>exact .cons (hb 10 zd) (.cons (hb 11 zd) .nil)
 |3,_=>exact .cons (hb 10 zd) (.cons (hb 11 zd) (.cons (hb 12 zd) .nil))
def Pu:al [SQ,Ui,SZ,S5,S1,Ud] [SQ,Ui,SZ,S5,S1,Ud] (ah dk):=bH zk
def DV{ds:Array Uw}(F:O8 K "state_of" "state_of" dk ds f fd)(T:Tc K C)(B:Bl mg)(Z:Zh mg tk)(MK:Mk K Cs fi)(mgS:mg "State"=some (.ref Cs))(IN:NN P w K mg base br 1 fi Wg [SN,Ui,SZ,S5,S1,Ud] (Au Cs))(bI:N7 K Wg [SN,Ui,SZ,S5,S1,Ud] [])
  (WI:Fn P w K mg base "is_within" 2 [S6,Uf,Tr] dH) (LT:Fn P w K mg base "is_list_to" 3 [S6,T8,Tr] ii) (LO:Fn P w K mg base "is_list_of" 4 [S6,T8,Tr] kz) (HW:Fn P w K mg base "highest_word" 1 [SQ] (rl C)):NN P w K mg base br 5 f fd Dz (yC C Cs):=by
 have ZZ:=Pu
 walk_at "o"
 ·obtain⟨v,d,n,sn,e,lp,lm,lc,rfl,hT,hlp,hlm,V4,q⟩:=h;obtain⟨a0,dx,pp,pm,pn,pk,us,rfl,ho,T',UK,_⟩:=id hT.tb;have T':H pp=some (.tup [.str "a",.str "b"]):=T';have UK:H pm=some (.tup [.str "m"]):=UK;refine⟨_,(ae (aM (bP (bE (ap WI hr.m rfl (aa (pv 1) (aa ai (aa (be (v:=.int 999) rfl Z.hr ⟨_,rfl⟩) ab)))))) (ag aU) aw) (ae (bS (i:=2) Pu.nd (bx (ak iC (pv 2) cN) (aX mo (bF (aa ai ab)) (au aH (by rfl) B.len JI (aa (aK (pv 0) rfl) ab))) (pv 2))) (ae (aM (bP (bE (ap LO hr rfl (aa (pv 2) (aa (au aH (by rfl) B.len JI (aa (aK (pv 0) rfl) ab)) (aa (ap HW hr.m rfl (aa (pv 0) ab)) ab)))))) (ag aU) aw) (ae (bS (i:=3) Pu.nd (bx (ak iC (pv 3) cN) (aX mo (bF (aa ai ab)) (au aH (by rfl) B.len JI (aa (aK (pv 0) rfl) ab))) (pv 3))) (ae (aM (bP (bE (ap LO hr rfl (aa (pv 3) (aa (au aH (by rfl) B.len JI (aa (aK (pv 0) rfl) ab)) (aa ai ab)))))) (ag aU) aw) (ae (bS (i:=4) Pu.nd (bx (ak iC (pv 4) cN) (aX mo (bF (aa ai ab)) (aK (pv 0) rfl)) (pv 4))) (ae (aM (bP (bE (ap LO hr rfl (aa (pv 4) (aa (aK (pv 0) rfl) (aa (ap HW hr.m rfl (aa (pv 0) ab)) ab)))))) (ag aU) aw) (ae (bS (i:=5) Pu.nd (bx (ak iC (pv 5) cN) (bF ab) (pv 5))) (ae (aM (bP (bE (ap LT hr.m rfl (aa (pv 5) (aa (aK (pv 0) rfl) (aa (be (v:=.int 999) rfl Z.hr ⟨_,rfl⟩) ab)))))) (ag aU) aw) (ag (am (gU MK IN hr.m rfl mgS bI .nil dR (aa (pv 1) (aa (pv 2) (aa (pv 3) (aa (pv 4) (aa (pv 5) ab))))))))))))))))),?_⟩;have tn:=fun(x:Str)h=>T.na x h;refine⟨_,rfl,_,_,_,rfl,zd,zd,_,rfl,bJ ?_⟩;refine⟨_,rfl,rfl,_,rfl,aN (d_ fun z=>nomatch z) ⟨_,rfl,?_⟩⟩;refine⟨_,rfl,_,rfl,a0,C,dx,_,_,rfl,ho,T.cl,tn SZ zk,rfl,pp,_,rfl,.inr (NL.of T'),_,rfl,_,lQ d n sn e,rfl,hT.tb,(by decide:(9:Nat)<=24),lp,2,_,rfl,hlp,zd,BK _,fun H1 s1=>⟨_,rfl,bJ ?_⟩⟩;refine⟨_,rfl,rfl,_,rfl,aN (d_ fun z=>nomatch z) ⟨_,rfl,?_⟩⟩;refine⟨_,rfl,_,rfl,a0,C,dx,_,_,rfl,s1 _ _ ho,T.cl,tn S5 zk,rfl,pm,_,rfl,.inr (NL.of (s1 _ _ UK)),lm,1,_,rfl,s1 _ _ hlm,zd,zd,fun H2 s2=>⟨_,rfl,bJ ?_⟩⟩;have u2:=s1.trans s2;refine⟨_,rfl,rfl,_,rfl,aN (d_ fun z=>nomatch z) ⟨_,rfl,?_⟩⟩;refine⟨_,rfl,_,rfl,a0,C,dx,_,_,rfl,u2 _ _ ho,T.cl,tn S1 zk,rfl,_,rfl,_,lQ d n sn e,rfl,hT.tb.same u2,(by decide:(9:Nat)<=24),lc,7,_,rfl,u2 _ _ V4,zd,BK _,fun H3 s3=>⟨_,rfl,bJ ?_⟩⟩;have u3:=u2.trans s3;refine⟨_,rfl,rfl,_,rfl,eQ ⟨N0,fun ll nl=>?_⟩⟩;have s4:=af (o:=.lst []) nl;have el:az H3 ll (.lst []) ll=some (.lst []):=ac;generalize az H3 ll (.lst [])=H4 at*;have u4:=u3.trans s4;refine⟨_,rfl,_,rfl,a0,C,dx,_,_,rfl,u4 _ _ ho,T.cl,tn S9 zk,rfl,ll,0,_,_,rfl,el,Int.natCast_nonneg d,zd,zd,fun H5 s5=>⟨_,rfl,bJ ?_⟩⟩;have u5:=u4.trans s5;refine⟨_,rfl,_,rfl,_,rfl,_,rfl,_,rfl,fun x dy nx WJ Zf=>?_⟩;have sx:NJ H5 (az (az H5 dy (.own x)) x (.ins Cs dy [])):=bq nx (af WJ);refine⟨x,dy,lp,lm,lc,ll,_,_,_,_,_,rfl,ac,(u5.trans sx) _ _ hlp,(u5.trans sx) _ _ hlm,(u5.trans sx) _ _ V4,(s5.trans sx) _ _ el,fun H' p' m' c' l' hO np' nm' nc' nl' b=>?_⟩;exact⟨rfl,q H' x dy p' m' c' l' (cD (none_of u5 nx) (u5.trans sx) b) hO⟩
def Gp:al [SQ,Tn] [SQ,Tn] (ah kd):=bH zk
def DW(F:N1 K "need_row" "need_row" kd f fd)(Z:Zh mg tk)(IR:Fn P w K mg base "is_row" 5 [SQ,S6,Ul] (m8 C)):NN P w K mg base br 6 f fd [SQ,Tn] (yD C):=by
 have ZZ:=Gp
 walk_at "o"
 ·obtain⟨v,u,d,n,sn,e,rfl,hT,hn,⟨p,t,rfl,hp,ht⟩,q⟩:=h;refine⟨_,(ag (aM (bP (bE (ap IR hr rfl (aa (pv 0) (aa (pv 1) (aa (be (v:=.int 999) rfl Z.hr ⟨_,rfl⟩) ab)))))) (ag aU) aw)),?_⟩;exact⟨_,rfl,_,rfl,v,.ref p,lQ d n sn e,999,⟨jF n sn e,i8 n⟩,rfl,hT.tb,hT.ok,(by decide:(9:Nat)<=24),⟨p,t,rfl,hp,ht⟩,Go hn,fun H' s'=>⟨_,rfl,bJ (q H' s')⟩⟩
def Gq:al [SQ,Te,Tn] [SQ,Te,Tn] (ah fR):=bH zk
def DY(F:N1 K "need_single" "need_single" fR f fd)(S:Sc K Cs)(NR:Fn P w K mg base "need_row" 6 [SQ,Tn] (yD C)):NN P w K mg base br 7 f fd [SQ,Te,Tn] (yE C Cs):=by
 have ZZ:=Gq
 walk_at "o"
 ·obtain⟨v,u,d,n,sn,e,x,dx,p,m,c,l,at_,ps,ms,cs,ls,ft,rfl,hT,hn,hu,hO,q⟩:=h;refine⟨_,(ae (aQ (ap NR hr rfl (aa (pv 0) (aa (pv 2) ab)))) (ag (aM (ak fb (aK (pv 1) rfl) aj) (ag aU) aw))),?_⟩;refine⟨_,rfl,_,rfl,v,u,d,n,sn,e,rfl,hT,hn,hu,fun H1 s1=>?_⟩;exact⟨_,rfl,x,Cs,dx,_,_,rfl,s1 _ _ hO.ex,S.cl,S.n6,rfl,rfl,_,rfl,aN zk (q _ s1)⟩
end
abbrev nO:Stmt:=top 36
abbrev nP:Stmt:=top 38
abbrev gm:Stmt:=top 39
abbrev rQ:Stmt:=top 40
abbrev yF:Stmt:=top 33
abbrev rR:Stmt:=top 22
abbrev rS:Stmt:=bO lK 0
abbrev kK:Stmt:=bO lK 1
abbrev nQ:Stmt:=bO lK 2
abbrev nR:Stmt:=bO lK 5
abbrev nS:Stmt:=bO lK 6
abbrev nU:Stmt:=bO lK 7
section
variable{n i:Nat}
def nV(h:i<n):zG n (i:Int)=some i:=by
 unfold zG;rw[g_ zo,g_ zo,Kq]
structure Wc(K:ZF)(C:Ux):Prop where
 cl:Px K C
 n1:N3 K C SQ
 n2:N3 K C Te
 n3:N3 K C Tk
def Jg(v:V)(x t:Ux):List (Str×V):=[(SQ,v),(Te,.ref x),(Tk,.ref t)]
structure W6(C Cs Cw:Ux)(H0 H:Hp)(y dy x dx p m c l t:Ux)(v:V)(d n s:Nat)(e:Ee)(ps:UG):Prop where
 sm:NJ H0 H
 fx:H0 x=none
 fp:H0 p=none
 fm:H0 m=none
 fc:H0 c=none
 fl:H0 l=none
 ey:H y=some (.ins Cw dy (Jg v x t))
 tb:Tv C H0 v d n s e
 st:Ow Cs H x dx p m c l (.int 0) ps (z0 1) (z0 7) (z0 0) (.str "on") .non
variable{ps:UG}{e:Ee}{d s:Nat}{v:V}{H0 H H':Hp}{C Cs Cw:Ux}
def W6.same{y dy x dx p m c l t:Ux}(h:W6 C Cs Cw H0 H y dy x dx p m c l t v d n s e ps)(z:NJ H H'):W6 C Cs Cw H0 H' y dy x dx p m c l t v d n s e ps:=⟨h.sm.trans z,h.fx,h.fp,h.fm,h.fc,h.fl,z _ _ h.ey,h.tb,h.st.same z⟩
def W6.setP{y dy x dx p m c l t:Ux}(h:W6 C Cs Cw H0 H y dy x dx p m c l t v d n s e ps)(qs:UG):W6 C Cs Cw H0 (az H p (.lst qs)) y dy x dx p m c l t v d n s e qs:=by
 have np:∀{a:Ux}{o:HO},H a=some o->o≠.lst ps->a≠p:=fun g k e=>by rw[e,h.st.ep]at g;exact k (JS g).symm
 exact⟨bq h.fp h.sm,h.fx,h.fp,h.fm,h.fc,h.fl,by rw[ao (np h.ey (fun z=>nomatch z))];exact h.ey,h.tb,by rw[ao (np h.st.ex (fun z=>nomatch z))];exact h.st.ex,ac,by rw[ao h.st.pm.symm];exact h.st.em,by rw[ao h.st.pc.symm];exact h.st.ec,by rw[ao h.st.pl.symm];exact h.st.el,h.st.pm,h.st.pc,h.st.pl,h.st.mc,h.st.ml,h.st.cl⟩
def W6.setM{y dy x dx p m c l t:Ux}(h:W6 C Cs Cw H0 H y dy x dx p m c l t v d n s e ps):W6 C Cs Cw H0 (az H m (.lst (z0 1))) y dy x dx p m c l t v d n s e ps:=by
 have np:∀{a:Ux}{o:HO},H a=some o->o≠.lst (z0 1)->a≠m:=fun g k e=>by rw[e,h.st.em]at g;exact k (JS g).symm
 exact⟨bq h.fm h.sm,h.fx,h.fp,h.fm,h.fc,h.fl,by rw[ao (np h.ey (fun z=>nomatch z))];exact h.ey,h.tb,by rw[ao (np h.st.ex (fun z=>nomatch z))];exact h.st.ex,by rw[ao h.st.pm];exact h.st.ep,ac,by rw[ao h.st.mc.symm];exact h.st.ec,by rw[ao h.st.ml.symm];exact h.st.el,h.st.pm,h.st.pc,h.st.pl,h.st.mc,h.st.ml,h.st.cl⟩
def W6.setC{y dy x dx p m c l t:Ux}(h:W6 C Cs Cw H0 H y dy x dx p m c l t v d n s e ps):W6 C Cs Cw H0 (az H c (.lst (z0 7))) y dy x dx p m c l t v d n s e ps:=by
 have np:∀{a:Ux}{o:HO},H a=some o->o≠.lst (z0 7)->a≠c:=fun g k e=>by rw[e,h.st.ec]at g;exact k (JS g).symm
 exact⟨bq h.fc h.sm,h.fx,h.fp,h.fm,h.fc,h.fl,by rw[ao (np h.ey (fun z=>nomatch z))];exact h.ey,h.tb,by rw[ao (np h.st.ex (fun z=>nomatch z))];exact h.st.ex,by rw[ao h.st.pc];exact h.st.ep,by rw[ao h.st.mc];exact h.st.em,ac,by rw[ao h.st.cl.symm];exact h.st.el,h.st.pm,h.st.pc,h.st.pl,h.st.mc,h.st.ml,h.st.cl⟩
def Qb(p m c:Ux)(H H':Hp):Prop:=∀b o,H b=some o->b≠p->b≠m->b≠c->H' b=some o
variable{H1 H2:Hp}{p m c:Ux}
def Qb.trans(a:Qb p m c H H1)(b:Qb p m c H1 H2):Qb p m c H H2:=fun d o e h1 h2 h3=>b _ _ (a _ _ e h1 h2 h3) h1 h2 h3
def Qb.of(s:NJ H H1):Qb p m c H H1:=fun d o e _ _ _=>s _ _ e
def Qb.kt{xs ys zs:UG}(b:Qb p m c H H1)(ep:H p=some (.lst xs))(em:H m=some (.lst ys))(ec:H c=some (.lst zs)):N6 H H1:=fun a us e=>b _ _ e (by rintro rfl;rw[ep]at e;cases e) (by rintro rfl;rw[em]at e;cases e) (by rintro rfl;rw[ec]at e;cases e)
inductive nW(Cw:Ux)(vs:UG)(H:Hp)(Q:VK)(Z3:XK):Prop
 |mk(y dy x t:Ux)(v:V):vs=[.ref y,v,.ref x,.ref t]->H y=some (.ins Cw dy [])->(∀H',H' y=some (.ins Cw dy (Jg v x t))->NX y H H'->Q .non H')->nW Cw vs H Q Z3
inductive i9(vs:UG)(H:Hp)(Q:VK)(Z3:XK):Prop
 |mk(y u:V)(k:Nat):vs=[y,u]->PN H false k u->Q (.int (k:Int)) H->i9 vs H Q Z3
inductive AS(C Cs Cw:Ux)(vs:UG)(H:Hp)(Q:VK)(Z3:XK):Prop
 |mk(H0:Hp)(y dy x dx p m c l t:Ux)(v u:V)(d n s:Nat)(e:Ee)(k:Nat):vs=[.ref y,u]->W6 C Cs Cw H0 H y dy x dx p m c l t v d n s e (z0 2)->PN H false k u->k<2->Q (.int 0) H->AS C Cs Cw vs H Q Z3
inductive AU(C Cs Cw:Ux)(vs:UG)(H:Hp)(Q:VK)(Z3:XK):Prop
 |mk(H0:Hp)(y dy x dx p m c l t:Ux)(v u:V)(d n s:Nat)(e:Ee):vs=[.ref y,u,.int 1]->W6 C Cs Cw H0 H y dy x dx p m c l t v d n s e (z0 2)->PN H false 0 u->(∀H',W6 C Cs Cw H0 H' y dy x dx p m c l t v d n s e [.int 1,.int 0]->Qb p m c H H'->Q .non H')->AU C Cs Cw vs H Q Z3
inductive AV(C Cs Cw:Ux)(vs:UG)(H:Hp)(Q:VK)(Z3:XK):Prop
 |mk(H0:Hp)(y dy x dx p m c l t:Ux)(v u:V)(d n s:Nat)(e:Ee):vs=[.ref y,u,.int 0]->W6 C Cs Cw H0 H y dy x dx p m c l t v d n s e (z0 2)->PN H false 0 u->(∀H',W6 C Cs Cw H0 H' y dy x dx p m c l t v d n s e (z0 2)->Qb p m c H H'->Q .non H')->AV C Cs Cw vs H Q Z3
inductive AW(C Cs Cw:Ux)(vs:UG)(H:Hp)(Q:VK)(Z3:XK):Prop
 |mk(H0:Hp)(y dy x dx p m c l t:Ux)(v:V)(d n s:Nat)(e:Ee):vs=[.ref y,.int 0,.int 0]->W6 C Cs Cw H0 H y dy x dx p m c l t v d n s e (z0 2)->(∀H',W6 C Cs Cw H0 H' y dy x dx p m c l t v d n s e (z0 2)->Qb p m c H H'->Q .non H')->AW C Cs Cw vs H Q Z3
inductive nX(vs:UG)(H:Hp)(Q:VK)(Z3:XK):Prop
 |mk:vs=[.int 0]->Q (.int 0) H->nX vs H Q Z3
inductive kL(vs:UG)(H:Hp)(Q:VK)(Z3:XK):Prop
 |mk(y u:V)(s:Nat)(e:Ee):vs=[y,u]->QS H u s e->Q u H->kL vs H Q Z3
inductive jI(vs:UG)(H:Hp)(Q:VK)(Z3:XK):Prop
 |mk(c:Nat):vs=[.int 0,.int (c:Int),.int ((9:Nat):Int)]->c<512->Q (.int (c:Int)) H->jI vs H Q Z3
inductive rT(vs:UG)(H:Hp)(Q:VK)(Z3:XK):Prop
 |mk(c:Nat):vs=[.str "+",.int 0,.int (c:Int),.int ((9:Nat):Int)]->c<512->Q (.int (c:Int)) H->rT vs H Q Z3
def Ir:Ed->Prop
 |.pl _ k=>k<2
 |.two _ x y=>Ir x/\Ir y
 |_=>True
inductive tP(C Cs Cw:Ux)(m:Nat)(vs:UG)(H:Hp)(Q:VK):Prop
 |mk(H0:Hp)(y dy x dx p mm c l t:Ux)(v u:V)(d n s:Nat)(e:Ee)(ed:Ed)(k:Nat)(o:Option Ed):vs=[.ref y,u]->W6 C Cs Cw H0 H y dy x dx p mm c l t v d n s e (z0 2)->Od H ed u->Fe m ed k o->Ir ed->(∀H',NJ H H'->Q (.int (k:Int)) H')->tP C Cs Cw m vs H Q
def jJ(C Cs Cw:Ux):Nat->Sp
 |0=>hZ
 |m+1=>fun vs H Q _=>tP C Cs Cw m vs H Q
section
variable{P:Uz}{w:UA}{K:ZF}{mg:Str->Option Uw}{base:Heap}{C Cs Cw:Ux}
def Gr:al [Th,S4,SV] [Th,S4,SV] (ah rR):=bH zk
def yG(F:N1 K "added" "added" rR f fd)(RO:Fn P w K mg base "rest_of" 1 ["number",SV] nu):NN P w K mg base br 2 f fd [Th,S4,SV] jI:=by
 have ZZ:=Gr
 walk_at "o"
 ·obtain⟨c,rfl,hc,q⟩:=h;refine⟨_,(ag (am (ap RO hr rfl (aa (aX cA (pv 0) (pv 1)) (aa (pv 2) ab))))),?_⟩;refine⟨_,rfl,_,rfl,_,_,rfl,rfl,_,rfl,(c:Int),?_,zo,zo,q⟩;rw[Pi];rfl
def RL:al ["op",Th,S4,SV,"made"] ["op",Th,S4,SV] (ah yF):=bH zk
def AX(F:N1 K "reckoned" "reckoned" yF f fd)(ho:mg "OPS"=some (.ref aO))(hd:dc w K aO kvs)(hk:kvs.lookup ("+":Str)=some (V.ref fA))(AD:NN P w K mg base br 2 fA fdA [Th,S4,SV] jI)(kA:PySem.W.keepIn K (.ref fA)=true)(bA:N7 K fdA [Th,S4,SV] []):NN P w K mg base br 3 f fd ["op",Th,S4,SV] rT:=by
 have ZZ:=RL
 walk_at "o"
 ·obtain⟨c,rfl,hc,q⟩:=h;refine⟨_,(ae (bS (i:=4) RL.nd (ax wx (be (v:=.ref aO) rfl ho rfl) (pv 0))) (ag (am (wy (pv 4) (aa (pv 1) (aa (pv 2) (aa (pv 3) ab))))))),?_⟩;refine⟨_,rfl,aO,kvs,_,.ref fA,rfl,hd,rfl,hk,?_⟩;exact⟨_,rfl,fA,fdA,2,[Th,S4,SV],jI,rfl,AD,hr,kA,bA,_,rfl,_,rfl,_,rfl,c,rfl,hc,q⟩
def AY:al [SN,SQ,Te,Tk] [SN,SQ,Te,Tk] (ah rS):=bH zk
def yH(F:N1 K "__init__" "Way.__init__" rS f fd)(T:Wc K Cw):NN P w K mg base br 1 f fd [SN,SQ,Te,Tk] (nW Cw):=by
 have ZZ:=AY
 walk_at "o"
 ·obtain⟨y,dy,x,t,v,rfl,hy,q⟩:=h;refine⟨_,ae (bQ (pv 0) (pv 1) rfl) (ae (bQ (pv 0) (pv 2) rfl) (ag (bQ (pv 0) (pv 3) rfl))),?_⟩;refine⟨_,rfl,_,rfl,y,Cw,dy,_,rfl,hy,T.cl,T.n1,(by show 0<1000;decide),?_⟩;refine⟨_,rfl,_,rfl,y,Cw,dy,_,rfl,ac,T.cl,T.n2,(by show 1<1000;decide),?_⟩;refine⟨_,rfl,_,rfl,y,Cw,dy,_,rfl,ac,T.cl,T.n3,(by show 2<1000;decide),?_⟩;exact q _ ac fun b o e n=>by rw[ao n,ao n,ao n];exact e
def DZ:al [SN,Tu] [SN,Tu] (ah kK):=bH zk
def AZ(F:N1 K "number_told" "Way.number_told" kK f fd):NN P w K mg base br 1 f fd [SN,Tu] i9:=by
 have ZZ:=DZ
 walk_at "o"
 ·obtain⟨y,u,k,rfl,⟨q0,rfl,hq⟩,q⟩:=h;refine⟨_,ag (am (bx (ak aY (ax ar (pv 1) ai) aj) (ax ar (pv 1) ai) (ax ar (aK (pv 0) rfl) (ax ar (pv 1) ai)))),?_⟩;exact⟨_,rfl,q0,_,_,_,rfl,rfl,NL.of hq,bf,rfl,_,rfl,bj zk ⟨_,rfl,q0,_,_,_,rfl,rfl,NL.of hq,cn,q⟩⟩
def yI:al [SN,Tu] [SN,Tu] (ah nQ):=bH zk
def vA(F:N1 K "place_word" "Way.place_word" nQ f fd)(T:Wc K Cw)(S:Sc K Cs)(NT:bB P w K mg base Cw "number_told" 1 [SN,Tu] i9):NN P w K mg base br 2 f fd [SN,Tu] (AS C Cs Cw):=by
 have ZZ:=yI
 walk_at "o"
 ·obtain⟨H0,y,dy,x,dx,p,m,c,l,t,v,u,d,n,sn,e,k,rfl,W,hu,hk,q⟩:=h;obtain⟨f1,K7,M1,F1,B1⟩:=NT;refine⟨_,ag (am (ax b9 (aK (aK (pv 0) rfl) rfl) (aR (pv 0) (aa (pv 1) ab)))),?_⟩;exact⟨_,rfl,y,Cw,dy,_,_,rfl,W.ey,T.cl,T.n2,rfl,x,Cs,dx,_,_,rfl,W.st.ex,S.cl,S.n2,rfl,_,rfl,y,dy,Cw,f1,_,K7,1,[SN,Tu],_,rfl,W.ey,rfl,T.cl,M1,F1,hr,B1,_,rfl,.ref y,u,k,rfl,hu,p,_,_,_,rfl,rfl,NQ.of W.st.ep,bD (v:=.int 0) (by rw[RW,g_ hk]),q⟩
def yJ:al [SN,Tu,S8] [SN,Tu,S8] (ah nR):=bH zk
def vB(F:N1 K "give_place" "Way.give_place" nR f fd)(T:Wc K Cw)(S:Sc K Cs)(NT:bB P w K mg base Cw "number_told" 1 [SN,Tu] i9):NN P w K mg base br 2 f fd [SN,Tu,S8] (AU C Cs Cw):=by
 have ZZ:=yJ
 walk_at "o"
 ·obtain⟨H0,y,dy,x,dx,p,m,c,l,t,v,u,d,n,sn,e,rfl,W,hu,q⟩:=h;obtain⟨f1,K7,M1,F1,B1⟩:=NT;refine⟨_,ag (cu (pv 2) (jP (aK (aK (pv 0) rfl) rfl) (aR (pv 0) (aa (pv 1) ab)) fz)),?_⟩;refine⟨_,rfl,_,rfl,y,Cw,dy,_,_,rfl,W.ey,T.cl,T.n2,rfl,x,Cs,dx,_,_,rfl,W.st.ex,S.cl,S.n2,rfl,_,rfl,y,dy,Cw,f1,_,K7,1,[SN,Tu],_,rfl,W.ey,rfl,T.cl,M1,F1,hr,B1,_,rfl,.ref y,u,0,rfl,hu,p,_,_,_,rfl,rfl,W.st.ep,nV (n:=2) (i:=0) zd,?_⟩;exact q _ (W.setP _) fun b o e h1 _ _=>by rw[ao h1];exact e
def yK:al [SN,Tu,S8] [SN,Tu,S8] (ah nS):=bH zk
def Gu:al [S8] [S8] (ah qD):=bH zk
def yL(F:N1 K "truth_of" "truth_of" qD f fd):NN P w K mg base br 1 f fd [S8] nX:=by
 have ZZ:=Gu
 walk_at "o"
 ·obtain⟨rfl,q⟩:=h;refine⟨_,ag (am (bx (ak aY (pv 0) ai) ai ai)),?_⟩;exact⟨_,rfl,rfl,_,rfl,bj zd q⟩
def vC(F:N1 K "give_mark" "Way.give_mark" nS f fd)(T:Wc K Cw)(S:Sc K Cs)(NT:bB P w K mg base Cw "number_told" 1 [SN,Tu] i9)(TR:Fn P w K mg base "truth_of" 1 [S8] nX):NN P w K mg base br 2 f fd [SN,Tu,S8] (AV C Cs Cw):=by
 have ZZ:=yK
 walk_at "o"
 ·obtain⟨H0,y,dy,x,dx,p,m,c,l,t,v,u,d,n,sn,e,rfl,W,hu,q⟩:=h;obtain⟨f1,K7,M1,F1,B1⟩:=NT;refine⟨_,ag (cu (ap TR hr rfl (aa (pv 2) ab)) (jP (aK (aK (pv 0) rfl) rfl) (aR (pv 0) (aa (pv 1) ab)) fz)),?_⟩;refine⟨_,rfl,rfl,_,rfl,y,Cw,dy,_,_,rfl,W.ey,T.cl,T.n2,rfl,x,Cs,dx,_,_,rfl,W.st.ex,S.cl,S.n3,rfl,_,rfl,y,dy,Cw,f1,_,K7,1,[SN,Tu],_,rfl,W.ey,rfl,T.cl,M1,F1,hr,B1,_,rfl,.ref y,u,0,rfl,hu,m,_,_,_,rfl,rfl,W.st.em,nV (n:=1) (i:=0) zd,?_⟩;exact q _ W.setM fun b o e _ h2 _=>by rw[ao h2];exact e
def yM:al [SN,T3,S8] [SN,T3,S8] (ah nU):=bH zk
def vD(F:N1 K "give_cell" "Way.give_cell" nU f fd)(Tb:Tc K C)(T:Wc K Cw)(S:Sc K Cs):NN P w K mg base br 2 f fd [SN,T3,S8] (AW C Cs Cw):=by
 have ZZ:=yM
 walk_at "o"
 ·obtain⟨H0,y,dy,x,dx,p,m,c,l,t,v,d,n,sn,e,rfl,W,q⟩:=h;obtain⟨a0,dt,pp,pm,pn,pk,us,rfl,ho,_⟩:=id (W.tb.same W.sm).tb;refine⟨_,ag (cu (pv 2) (jP (aK (aK (pv 0) rfl) rfl) (aX eO (pv 1) (aK (aK (pv 0) rfl) rfl)) fz)),?_⟩;refine⟨_,rfl,_,rfl,y,Cw,dy,_,_,rfl,W.ey,T.cl,T.n2,rfl,x,Cs,dx,_,_,rfl,W.st.ex,S.cl,S.n4,rfl,_,rfl,_,rfl,y,Cw,dy,_,_,rfl,W.ey,T.cl,T.n1,rfl,a0,C,dt,_,_,rfl,ho,Tb.cl,Tb.na S1 zk,rfl,_,_,rfl,rfl,by show(0:Int)<((7:Nat):Int);decide,c,_,_,_,rfl,rfl,W.st.ec,nV (n:=7) (i:=0) zd,?_⟩;exact q _ W.setC fun b o e _ _ h3=>by rw[ao h3];exact e
def Iu:al [Ub,TL] [Ub,TL] (ah nO):=bH zk
def vF(F:N1 K "leaf_of" "leaf_of" nO f fd):NN P w K mg base br 1 f fd [Ub,TL] kL:=by
 have ZZ:=Iu
 walk_at "o"
 ·obtain⟨y,u,sn,e,rfl,⟨p,q0,us,ue,rfl,hp,_⟩,q⟩:=h;refine⟨_,(ae (df f_ (ak aY (ax ar (pv 1) ai) aj) (ag aU)) (ag (am (pv 1)))),?_⟩;refine⟨fun _ σ' H'=>σ'=[some y,some (.ref p)]/\H'=H,⟨0,rfl,rfl⟩,?_⟩;rintro m σ H' ⟨rfl,rfl⟩;exact⟨_,rfl,p,_,_,_,rfl,rfl,NL.of hp,bf,rfl,_,rfl,aN zk ⟨_,rfl,q⟩⟩
def Iv:al [Ub,Uu] [Ub,Uu] (ah nP):=bH zk
def lR(F:N1 K "word_of" "word_of" nP f fd)(Tb:Tc K C)(T:Wc K Cw)(hn:3<=n)(PW:bB P w K mg base Cw "place_word" 2 [SN,Tu] (AS C Cs Cw))(RK:Fn P w K mg base "reckoned" 3 ["op",Th,S4,SV] rT)(WO:Fn P w K mg base "word_of" n [Ub,Uu] (jJ C Cs Cw m)):NN P w K mg base br (n+1) f fd [Ub,Uu] (jJ C Cs Cw (m+1)):=by
 have ZZ:=Iv
 walk_at "o"
 ·obtain⟨H0,y,dy,x,dx,p,mm,c,l,t,v,u,d,n,sn,e,ed,k,o,rfl,W,hu,he,hk,q⟩:=h;have VC:NZ 3 _:=hr.mono hn;have K6:NZ 2 _:=VC.mono zd;obtain⟨f1,K7,M1,F1,B1⟩:=PW;refine⟨_,(ae (aM (ak aY (ax ar (pv 1) ai) aj) (ag (am (ax ar (pv 1) ai))) aw) (ae (aM (ak aY (ax ar (pv 1) ai) aj) (ag aU) aw) (ae (aM (ak aY (ax ar (pv 1) ai) aj) (ag (am (aR (pv 0) (aa (ax ar (pv 1) ai) ab)))) aw) (ae (aM (ak aY (ax ar (pv 1) ai) aj) (ag aU) aw) (ae (aM (ak aY (ax ar (pv 1) ai) aj) (ag aU) aw) (ag (am (ap RK VC rfl (aa (ax ar (pv 1) ai) (aa (ap WO hr rfl (aa (pv 0) (aa (ax ar (pv 1) ai) ab))) (aa (ap WO hr rfl (aa (pv 0) (aa (ax ar (pv 1) ai) ab))) (aa (aK (aK (pv 0) rfl) rfl) ab)))))))))))),?_⟩;cases he with
  |num m n=>
   obtain⟨pu,rfl,hp⟩:=hu;refine⟨_,rfl,pu,_,_,_,rfl,rfl,NL.of hp,bf,rfl,_,rfl,bj zk ?_⟩;exact⟨_,rfl,pu,_,_,_,rfl,rfl,NL.of hp,cn,q _ (NJ.refl _)⟩
  |pl m n=>
   obtain⟨pu,u',rfl,hp,VI⟩:=hu;refine⟨_,rfl,pu,_,_,_,rfl,rfl,NL.of hp,bf,rfl,_,rfl,aN zk ?_⟩;refine⟨_,rfl,pu,_,_,_,rfl,rfl,NL.of hp,bf,rfl,_,rfl,aN zk ?_⟩;refine⟨_,rfl,pu,_,_,_,rfl,rfl,NL.of hp,bf,rfl,_,rfl,bj zk ?_⟩;exact⟨_,rfl,y,dy,Cw,f1,_,K7,2,[SN,Tu],_,rfl,W.ey,rfl,T.cl,M1,F1,K6,B1,_,rfl,pu,_,_,_,rfl,rfl,NL.of hp,cn,H0,y,dy,x,dx,p,mm,c,l,t,v,u',d,_,sn,e,_,rfl,W,VI,hk,q _ (NJ.refl _)⟩
  |plus m n k hc=>
   obtain⟨pu,u1,u2,rfl,hp,h1,h2⟩:=hu;obtain⟨a0,dt,pp,pm,pn,pk,us,rfl,ho,_⟩:=id (W.tb.same W.sm).tb;refine⟨_,rfl,pu,_,_,_,rfl,rfl,NL.of hp,bf,rfl,_,rfl,aN zk ?_⟩;refine⟨_,rfl,pu,_,_,_,rfl,rfl,NL.of hp,bf,rfl,_,rfl,aN zk ?_⟩;refine⟨_,rfl,pu,_,_,_,rfl,rfl,NL.of hp,bf,rfl,_,rfl,aN zk ?_⟩;refine⟨_,rfl,pu,_,_,_,rfl,rfl,NL.of hp,bf,rfl,_,rfl,aN zk ?_⟩;refine⟨_,rfl,pu,_,_,_,rfl,rfl,NL.of hp,bf,rfl,_,rfl,aN zk ?_⟩;refine⟨_,rfl,pu,_,_,_,rfl,rfl,NL.of hp,bf,_,rfl,_,rfl,pu,_,_,_,rfl,rfl,NL.of hp,cn,H0,y,dy,x,dx,p,mm,c,l,t,_,u1,d,_,sn,e,_,_,_,rfl,W,h1,.pl _ n,hk.1,fun H1 s1=>?_⟩;have Vn:=s1 _ _ hp;refine⟨_,rfl,_,rfl,pu,_,_,_,rfl,rfl,NL.of Vn,ic,H0,y,dy,x,dx,p,mm,c,l,t,_,u2,d,_,sn,e,_,_,_,rfl,W.same s1,Od.kt (ay s1) h2,.num _ k,trivial,fun H2 s2=>?_⟩;have UX:=s1.trans s2;exact⟨_,rfl,y,Cw,dy,_,_,rfl,UX _ _ W.ey,T.cl,T.n1,rfl,a0,C,dt,_,_,rfl,UX _ _ ho,Tb.cl,Tb.na SV zk,rfl,k,rfl,hc,q _ UX⟩
end
end
inductive QW(H:Hp)(v:V)(s:Nat):Prop
 |pl (p:Ux) (u:V):s=1->v=.ref p->H p=some (.tup [.str SU,u,.int 1])->PN H false 0 u->QW H v s
 |mk(p:Ux)(u:V):s=2->v=.ref p->H p=some (.tup [.str S2,u,.int 0])->PN H false 0 u->QW H v s
 |cell (p:Ux):3<=s->v=.ref p->H p=some (.tup [.str "cell",.int 0,.int 0])->QW H v s
def QW.kt{H H':Hp}{v:V}{s:Nat}(k:N6 H H')(h:QW H v s):QW H' v s:=by
 cases h with
 |pl p u a b c d=>exact .pl p u a b (k _ _ c) (d.kt k)
 |mk p u a b c d=>exact .mk p u a b (k _ _ c) (d.kt k)
 |cell p a b c=>exact .cell p a b (k _ _ c)
inductive D0(C Cs Cw:Ux)(vs:UG)(H:Hp)(Q:VK)(Z3:XK):Prop
 |mk(H0:Hp)(y dy x dx p m c l t:Ux)(v u:V)(d n s:Nat)(e:Ee)(g:Sd):vs=[.ref y,u]->W6 C Cs Cw H0 H y dy x dx p m c l t v d n s e (z0 2)->g∈ik s->OQ H g u->(∀v H',NJ H H'->QW H' v s->Q v H')->D0 C Cs Cw vs H Q Z3
def vP(s:Nat):UG:=if s=1 then [.int 1,.int 0]else z0 2
inductive D1(C Cs Cw:Ux)(vs:UG)(H:Hp)(Q:VK)(Z3:XK):Prop
 |mk(H0:Hp)(y dy x dx p m c l t q:Ux)(v:V)(us:UG)(d n s:Nat)(e:Ee):vs=[.ref y,.ref q]->W6 C Cs Cw H0 H y dy x dx p m c l t v d n s e (z0 2)->H q=some (.tup us)->Paired (fun v g=>OQ H g v) us (ik s)->(∀H',W6 C Cs Cw H0 H' y dy x dx p m c l t v d n s e (vP s)->Qb p m c H H'->Q .non H')->D1 C Cs Cw vs H Q Z3
def D2(s:Nat):(ik s).length<=1/\(s≠0->(ik s).length=1):=by
 match s with
 |0=>exact⟨zd,fun z=>absurd rfl z⟩
 |1=>exact⟨zd,fun _=>rfl⟩
 |2=>exact⟨zd,fun _=>rfl⟩
 |k+3=>exact⟨JB 1,fun _=>rfl⟩
inductive Iw(C Cs Cw:Ux)(H0 H:Hp)(y dy x dx p m c l t q lr:Ux)(v:V)(ys:UG)(d n s:Nat)(e:Ee)(i:Nat)(σ:St)(H':Hp):Prop
 |mk(v3 v4 v5:Option V):σ=[some (.ref y),some (.ref q),some (.ref lr),v3,v4,v5]->W6 C Cs Cw H0 H' y dy x dx p m c l t v d n s e (if i=0 then z0 2 else vP s)->Qb p m c H H'->H' lr=some (.lst ys)->(i=0->∀v∈ys,QW H' v s)->Iw C Cs Cw H0 H y dy x dx p m c l t q lr v ys d n s e i σ H'
section
variable{P:Uz}{w:UA}{K:ZF}{mg:Str->Option Uw}{base:Heap}{C Cs Cw:Ux}
def Q0:al [Ub,Td,Tg,Up,Uu] [Ub,Td] (ah rQ):=bH zk
def yN(F:N1 K "set_reckoned" "set_reckoned" rQ f fd)(WO:Fn P w K mg base "word_of" 5 [Ub,Uu] (jJ C Cs Cw 2)):NN P w K mg base br 6 f fd [Ub,Td] (D0 C Cs Cw):=by
 have ZZ:=Q0
 walk_at "o"
 ·obtain⟨H0,y,dy,x,dx,p,m,c,l,t,v,u,d,n,sn,e,gd,rfl,W,hg,hu,q⟩:=h;refine⟨_,(ae (cu (pv 1) (bT rfl (aq (bM (i:=2) Q0.nd) (aq (bM (i:=3) Q0.nd) (aq (bM (i:=4) Q0.nd) bi))))) (ae (aM (ak aY (pv 2) aj) (ag (am (av (aa (pv 2) (aa (ap WO hr rfl (aa (pv 0) (aa (pv 3) ab))) (aa (ap WO hr rfl (aa (pv 0) (aa (pv 4) ab))) ab)))))) aw) (ag (am (av (aa (pv 2) (aa (pv 3) (aa (ap WO hr rfl (aa (pv 0) (aa (pv 4) ab))) ab)))))))),?_⟩
  match sn,hg,W,q with
  |1,hg,W,q=>
   cases JL.mp hg;obtain⟨pg,u1,u2,rfl,hp,h1,h2⟩:=hu;refine⟨_,rfl,pg,_,rfl,NL.of hp,rfl,_,_,rfl,_,_,rfl,_,_,rfl,rfl,?_⟩;refine⟨_,rfl,rfl,_,rfl,aN zk ?_⟩;refine⟨_,rfl,_,rfl,_,rfl,_,rfl,H0,y,dy,x,dx,p,m,c,l,t,v,u2,d,n,1,e,_,_,_,rfl,W,h2,.plus 0 0 1 zd,⟨(by decide:0<2),trivial⟩,fun H1 s1=>?_⟩;refine⟨N0,fun p1 n1=>?_⟩;have s2:=af (o:=.tup [.str SU,u1,.int ((1:Nat):Int)]) n1;exact q _ _ (s1.trans s2) (.pl p1 u1 rfl rfl ac (h1.kt (ay (s1.trans s2))))
  |2,hg,W,q=>
   cases JL.mp hg;obtain⟨pg,u1,u2,rfl,hp,h1,h2⟩:=hu;refine⟨_,rfl,pg,_,rfl,NL.of hp,rfl,_,_,rfl,_,_,rfl,_,_,rfl,rfl,?_⟩;refine⟨_,rfl,rfl,_,rfl,aN zk ?_⟩;refine⟨_,rfl,_,rfl,_,rfl,_,rfl,H0,y,dy,x,dx,p,m,c,l,t,v,u2,d,n,2,e,_,_,_,rfl,W,h2,.pl 1 1,(by decide:1<2),fun H1 s1=>?_⟩;refine⟨N0,fun p1 n1=>?_⟩;have s2:=af (o:=.tup [.str S2,u1,.int ((0:Nat):Int)]) n1;exact q _ _ (s1.trans s2) (.mk p1 u1 rfl rfl ac (h1.kt (ay (s1.trans s2))))
  |k+3,hg,W,q=>
   cases JL.mp hg;obtain⟨pg,u1,u2,rfl,hp,h1,h2⟩:=hu;refine⟨_,rfl,pg,_,rfl,NL.of hp,rfl,_,_,rfl,_,_,rfl,_,_,rfl,rfl,?_⟩;refine⟨_,rfl,rfl,_,rfl,bj zk ?_⟩;refine⟨_,rfl,_,rfl,_,rfl,H0,y,dy,x,dx,p,m,c,l,t,v,u1,d,n,k+3,e,_,_,_,rfl,W,h1,.pl 1 1,(by decide:1<2),fun H1 s1=>?_⟩;refine⟨_,rfl,_,rfl,H0,y,dy,x,dx,p,m,c,l,t,v,u2,d,n,k+3,e,_,_,_,rfl,W.same s1,Od.kt (ay s1) h2,.pl 1 0,(by decide:0<2),fun H2 s2=>?_⟩;refine⟨N0,fun p1 n1=>?_⟩;have s3:=af (o:=.tup [.str "cell",.int ((0:Nat):Int),.int ((0:Nat):Int)]) n1;exact q _ _ ((s1.trans s2).trans s3) (.cell p1 zo rfl ac)
def QK:al [Ub,TB,"reckonings",Tg,Up,S8] [Ub,TB] (ah gm):=bH zk
def Ix:([Td,Ub]:UD).Nodup:=by decide +kernel
def pQ(F:N1 K "give_sets" "give_sets" gm f fd)(T:Wc K Cw)(SR:Fn P w K mg base "set_reckoned" 6 [Ub,Td] (D0 C Cs Cw))(GP:bB P w K mg base Cw "give_place" 2 [SN,Tu,S8] (AU C Cs Cw))(GM:bB P w K mg base Cw "give_mark" 2 [SN,Tu,S8] (AV C Cs Cw))(GC:bB P w K mg base Cw "give_cell" 2 [SN,T3,S8] (AW C Cs Cw)):NN P w K mg base br 7 f fd [Ub,TB] (D1 C Cs Cw):=by
 have ZZ:=QK
 walk_at "o"
 ·obtain⟨H0,y,dy,x,dx,p,m,c,l,t,q0,v,us,d,n,sn,e,rfl,W,hq,K9,q⟩:=h;have sz:(100:Nat)<=sizeLine:=by decide
  obtain⟨f1,K7,M1,F1,B1⟩:=GP;obtain⟨f2,UZ,M2,F2,B2⟩:=GM;obtain⟨f3,UY,M3,F3,B3⟩:=GC;have hl:=K9.length;obtain⟨l1,l2⟩:=D2 sn;refine⟨_,(ae (dh (i:=2) QK.nd rfl rfl (N':=[Td,Ub]) (ix:=[none,some 0]) (sc0:=ah gm) (N:=[Ub,TB,"reckonings",Tg,Up,S8]) rfl zk (cK (pv 1)) (fun _ _ _ _ _=>(bM (i:=0) Ix)) (fun _ _ _ _ _=>bz) (fun _ _ _ _ _=>(ap SR hr rfl (aa (pv 1) (aa (pv 0) ab))))) (ag (cv f_ rfl (bV (pv 2)) (bT rfl (aq (bM (i:=3) QK.nd) (aq (bM (i:=4) QK.nd) (aq (bM (i:=5) QK.nd) bi)))) (ag (aM (ak aY (pv 3) aj) (ag (aQ (aR (pv 0) (aa (pv 4) (aa (pv 5) ab))))) (ag (aM (ak aY (pv 3) aj) (ag (aQ (aR (pv 0) (aa (pv 4) (aa (pv 5) ab))))) (ag (aQ (aR (pv 0) (aa (pv 4) (aa (pv 5) ab)))))))))))),?_⟩;refine⟨_,rfl,q0,rfl,⟨_,NL.of hq⟩,?_⟩;refine iH (K:=K) (a:=q0) (xs:=us) (fun i ys H'=>NJ H H'/\ys.length=i/\∀v∈ys,QW H' v sn) ⟨NJ.refl _,rfl,fun _ z=>nomatch z⟩ (fun i ys H' hi⟨s',e',_⟩=>⟨NL.of (s' _ _ hq),zo⟩) ?_ ?_
  ·rintro i u ys H1 Zi ⟨s1,e1,r1⟩;obtain⟨gd,Wy,hu⟩:=cM K9 Zi;refine⟨⟨rfl,trivial⟩,bC ?_⟩;refine⟨_,rfl,_,rfl,H0,y,dy,x,dx,p,m,c,l,t,v,u,d,n,sn,e,gd,rfl,W.same s1,JP Wy,OQ.kt (ay s1) hu,fun v2 H2 s2 h2=>?_⟩;refine Nx.mk (JA.mp Zi).1 ⟨s1.trans s2,by rw[JH,e1];rfl,fun v3 h3=>?_⟩;rcases Kc.mp h3 with h|h
   ·exact(r1 v3 h).kt (ay s2)
   ·rw[JL.mp h];exact h2
  rintro ys H1 ⟨s1,e1,r1⟩ lr XO;have W1:=W.same s1;have s2:=af (o:=.lst ys) XO;have e2:az H1 lr (.lst ys) lr=some (.lst ys):=ac;have np:lr≠p:=(aI W1.st.ep XO).symm;have nm:lr≠m:=(aI W1.st.em XO).symm;have nc:lr≠c:=(aI W1.st.ec XO).symm;generalize az H1 lr (.lst ys)=H2 at*;have u2:=s1.trans s2;refine⟨_,rfl,lr,rfl,⟨_,NQ.of e2⟩,?_⟩;refine fk (K:=K) (a:=lr) (xs:=ys) (fun i σ H'=>Iw C Cs Cw H0 H y dy x dx p m c l t q0 lr v ys d n sn e i σ H') ⟨none,none,none,rfl,W.same u2,.of u2,e2,fun _ v hv=>(r1 v hv).kt (ay s2)⟩ (fun i σ H' _⟨_,_,_,_,_,_,k,_⟩=>NQ.of k) ?_ ?_
  ·rintro i x' σ H3 hx ⟨v3,v4,v5,rfl,W3,b3,e3,r3⟩;have i0:i=0:=by have:=(JA.mp hx).1;lia
   subst i0;rw[g_ rfl]at W3;have P':∀{w3 w4 w5:Option V}{H4:Hp},W6 C Cs Cw H0 H4 y dy x dx p m c l t v d n sn e (vP sn)->Qb p m c H3 H4->Iw C Cs Cw H0 H y dy x dx p m c l t q0 lr v ys d n sn e (0+1) [some (.ref y),some (.ref q0),some (.ref lr),w3,w4,w5] H4:=fun W4 b4=>⟨_,_,_,rfl,W4,b3.trans b4,b4 _ _ e3 np nm nc,fun z=>nomatch z⟩;cases r3 rfl x' (JP hx)with
   |pl pr u hs ev hp VI=>
    subst hs ev;refine⟨pr,_,rfl,NL.of hp,rfl,_,_,rfl,_,_,rfl,_,_,rfl,rfl,?_⟩;refine⟨_,rfl,rfl,_,rfl,bj zk ?_⟩;exact⟨_,rfl,y,dy,Cw,f1,_,K7,2,[SN,Tu,S8],_,rfl,W3.ey,rfl,T.cl,M1,F1,hr.m,B1,_,rfl,_,rfl,H0,y,dy,x,dx,p,m,c,l,t,v,u,d,n,1,e,rfl,W3,VI,fun H4 W4 b4=>P' W4 b4⟩
   |mk pr u hs ev hp VI=>
    subst hs ev;refine⟨pr,_,rfl,NL.of hp,rfl,_,_,rfl,_,_,rfl,_,_,rfl,rfl,?_⟩;refine⟨_,rfl,rfl,_,rfl,aN zk ?_⟩;refine⟨_,rfl,rfl,_,rfl,bj zk ?_⟩;exact⟨_,rfl,y,dy,Cw,f2,_,UZ,2,[SN,Tu,S8],_,rfl,W3.ey,rfl,T.cl,M2,F2,hr.m,B2,_,rfl,_,rfl,H0,y,dy,x,dx,p,m,c,l,t,v,u,d,n,2,e,rfl,W3,VI,fun H4 W4 b4=>P' W4 b4⟩
   |cell pr hs ev hp=>
    subst ev;have e6:vP sn=z0 2:=e_ zo;refine⟨pr,_,rfl,NL.of hp,rfl,_,_,rfl,_,_,rfl,_,_,rfl,rfl,?_⟩;refine⟨_,rfl,rfl,_,rfl,aN zk ?_⟩;refine⟨_,rfl,rfl,_,rfl,aN zk ?_⟩;exact⟨_,rfl,y,dy,Cw,f3,_,UY,2,[SN,T3,S8],_,rfl,W3.ey,rfl,T.cl,M3,F3,hr.m,B3,_,rfl,_,rfl,H0,y,dy,x,dx,p,m,c,l,t,v,d,n,sn,e,rfl,W3,fun H4 W4 b4=>P' (by rw[e6];exact W4) b4⟩
  ·rintro σ H3 ⟨v3,v4,v5,rfl,W3,b3,e3,r3⟩;refine q _ ?_ b3;by_cases h0:sn=0
   ·subst h0;rw[show(if ys.length=0 then z0 2 else vP 0)=vP 0 by split<;>rfl]at W3;exact W3
   ·rw[e_ (by rw[e1,hl,l2 h0];decide)]at W3;exact W3
end
abbrev ja:Stmt:=top 82
abbrev jb:Stmt:=top 83
abbrev nY:Stmt:=top 84
abbrev kM:Stmt:=top 81
def dq(d:Nat):Ee->Nat×UE×Str×Option Str
 |.w0 s=>if s=To then(1,[],"on",none)else if s=Ta then(0,[],S3,some T7)else(0,[],Tp,none)
 |.fault z=>(0,[],S3,some z)
 |.go s j=>if s=Uh then(10+j,[],"on",none)else if d=0 then(0,[],S3,some T0)else(10+j,[1],"on",none)
def tQ:¬(S_:Str)=Uh:=by decide +kernel
def D3(h:d=0):dq d (.go S_ j)=((0,[],(S3:Str),some (T0:Str)):Nat×UE×Str×Option Str):=by unfold dq;dsimp only;rw[e_ tQ,g_ h]
def Gv(h:d≠0):dq d (.go S_ j)=((10+j,[1],("on":Str),none):Nat×UE×Str×Option Str):=by unfold dq;dsimp only;rw[e_ tQ,e_ h]
def Iy:Option Str->V
 |none=>.non
 |some z=>.str z
def Jh(Cs:Ux)(H:Hp)(x dx p m c l:Ux)(ps:UG)(r:Nat×UE×Str×Option Str):Prop:=Ow Cs H x dx p m c l (.int (r.1:Int)) ps (z0 1) (z0 7) (r.2.1.map fun(i:Nat)=>V.int (i:Int)) (.str r.2.2.1) (Iy r.2.2.2)
def Ow.setL{C:Ux}{H:Hp}{x dx p m c l:Ux}{at_:V}{ps ms cs ls:UG}{wd ft:V}(h:Ow C H x dx p m c l at_ ps ms cs ls wd ft)(qs:UG):Ow C (az H l (.lst qs)) x dx p m c l at_ ps ms cs qs wd ft:=by
 have nx:x≠l:=fun e=>by have:=h.ex;rw[e,h.el]at this;cases this
 exact⟨by rw[ao nx];exact h.ex,by rw[ao h.pl];exact h.ep,by rw[ao h.ml];exact h.em,by rw[ao h.cl];exact h.ec,ac,h.pm,h.pc,h.pl,h.mc,h.ml,h.cl⟩
inductive D4(C Cs:Ux)(vs:UG)(H:Hp)(Q:VK)(Z3:XK):Prop
 |mk(H0:Hp)(x dx p m c l:Ux)(v r:V)(d n s:Nat)(e:Ee):vs=[v,.ref x,r]->NJ H0 H->H0 x=none->H0 p=none->H0 m=none->H0 c=none->H0 l=none->Tv C H0 v d n s e->QR H0 r n->Ow Cs H x dx p m c l (.int 0) (z0 2) (z0 1) (z0 7) (z0 0) (.str "on") .non->(∀u H',NJ H0 H'->Ow Cs H' x dx p m c l (.int 0) (vP s) (z0 1) (z0 7) (z0 0) (.str "on") .non->PR H' e u->Q u H')->D4 C Cs vs H Q Z3
inductive tR(Cs:Ux)(vs:UG)(H:Hp)(Q:VK)(Z3:XK):Prop
 |mk(x dx p m c l:Ux)(ps:UG)(d:Nat):vs=[.ref x,.int 1,.int (d:Int)]->Ow Cs H x dx p m c l (.int 0) ps (z0 1) (z0 7) (z0 0) (.str "on") .non->(d=0->∀H',Ow Cs H' x dx p m c l (.int 0) ps (z0 1) (z0 7) (z0 0) (.str S3) (.str T0)->NX x H H'->Q (.bl false) H')->(d≠0->∀H',Ow Cs H' x dx p m c l (.int 0) ps (z0 1) (z0 7) [.int 1] (.str "on") .non->NX l H H'->Q (.bl true) H')->tR Cs vs H Q Z3
inductive D5(Cs:Ux)(vs:UG)(H:Hp)(Q:VK)(Z3:XK):Prop
 |mk(x dx p m c l:Ux)(ps:UG):vs=[.ref x]->Ow Cs H x dx p m c l (.int 0) ps (z0 1) (z0 7) (z0 0) (.str "on") .non->(∀H',Ow Cs H' x dx p m c l (.int 0) ps (z0 1) (z0 7) (z0 0) (.str S3) (.str T7)->NX x H H'->Q .non H')->D5 Cs vs H Q Z3
inductive D6(C Cs:Ux)(vs:UG)(H:Hp)(Q:VK)(Z3:XK):Prop
 |mk(H0:Hp)(x dx p m c l t:Ux)(v u:V)(ps:UG)(d n s:Nat)(e:Ee):vs=[v,.ref x,u,.ref t]->NJ H0 H->H0 x=none->H0 l=none->Tv C H0 v d n s e->Os n e->H0 t=some (.tup (fM (i8 n)))->PR H e u->Ow Cs H x dx p m c l (.int 0) ps (z0 1) (z0 7) (z0 0) (.str "on") .non->(∀H',NJ H0 H'->Jh Cs H' x dx p m c l ps (dq d e)->Q .non H')->D6 C Cs vs H Q Z3
inductive A0(C Cs:Ux)(vs:UG)(H:Hp)(Q:VK)(Z3:XK):Prop
 |mk(x dx p m c l:Ux)(v r:V)(d n s:Nat)(e:Ee):vs=[v,.ref x,r]->Tv C H v d n s e->Os n e->QR H r n->Ow Cs H x dx p m c l (.int 0) (z0 2) (z0 1) (z0 7) (z0 0) (.str "on") .non->(∀x' Vu p' m' c' l' H',NJ H H'->Jh Cs H' x' Vu p' m' c' l' (vP s) (dq d e)->Q (.ref x') H')->A0 C Cs vs H Q Z3
inductive rV(n:Nat):Ee->Prop
 |next:rV n (.w0 To)
 |back:rV n (.w0 Ta)
 |stop:rV n (.w0 Tp)
 |fault (z:Str):rV n (.fault z)
 |go (j:Nat):j<n->rV n (.go Uh j)
 |call (j:Nat):j<n->rV n (.go S_ j)
variable{n:Nat}
def yO{e:Ee}(h:e∈cQ n):rV n e:=by
 unfold cQ at h;rcases Kc.mp h with h|h
 ·simp only[JT,Kj,O_]at h;rcases h with rfl|rfl|rfl|rfl|rfl|rfl
  ·exact .next
  ·exact .back
  ·exact .stop
  ·exact .fault _
  ·exact .fault _
  ·exact .fault _
 ·rcases Kc.mp h with h|h
  ·obtain⟨j,hj,rfl⟩:=Ks.mp h;exact .go j (Kx.mp hj)
  ·obtain⟨j,hj,rfl⟩:=Ks.mp h;exact .call j (Kx.mp hj)
def yP{n j:Nat}(h:j<n):(fM (i8 n))[j]?=some (.int ((10+j:Nat):Int)):=by
 unfold fM i8;rw[J5,J5,N_ h];rfl
section
variable{P:Uz}{w:UA}{K:ZF}{mg:Str->Option Uw}{base:Heap}{C Cs Cw:Ux}
def QA:al [SQ,Te,Tn,S0,Tk,Ub,TD] [SQ,Te,Tn] (ah ja):=bH zk
def pR(F:N1 K "row_given" "row_given" ja f fd)(Tb:Tc K C)(MK:Mk K Cw fi)(mgW:mg "Way"=some (.ref Cw))(IN:NN P w K mg base br 1 fi Wg [SN,SQ,Te,Tk] (nW Cw))(bI:N7 K Wg [SN,SQ,Te,Tk] [])(LF:Fn P w K mg base "leaf_of" 1 [Ub,TL] kL)(GS:Fn P w K mg base "give_sets" 7 [Ub,TB] (D1 C Cs Cw))(DX:bB P w K mg base C TL 2 [SN,S0] (gk C)):NN P w K mg base br 8 f fd [SQ,Te,Tn] (D4 C Cs):=by
 have ZZ:=QA
 walk_at "o"
 ·obtain⟨H0,x,dx,p,m,c,l,v,r,d,n,sn,e,rfl,s0,fx,fp,fm,fc,fl,hT,⟨pr,t,rfl,hpr,ht⟩,hO,q⟩:=h;obtain⟨f1,K7,M1,F1,B1⟩:=DX;obtain⟨a0,dt,pp,pm,pn,pk,us,rfl,ho,_⟩:=id hT.tb;refine⟨_,(ae (cu (pv 2) (bT rfl (aq (bM (i:=3) QA.nd) (aq (bM (i:=4) QA.nd) bi)))) (ae (bS (i:=5) QA.nd (gU MK IN hr.m rfl mgW bI .nil dR (aa (pv 0) (aa (pv 1) (aa (pv 4) ab))))) (ae (bS (i:=6) QA.nd (ap LF hr.m rfl (aa (pv 5) (aa (aR (pv 0) (aa (pv 3) ab)) ab)))) (ae (aQ (ap GS hr rfl (aa (pv 5) (aa (ax ar (pv 6) ai) ab)))) (ag (am (ax ar (pv 6) ai))))))),?_⟩;refine⟨_,rfl,pr,_,rfl,NL.of (s0 _ _ hpr),rfl,_,_,rfl,_,_,rfl,rfl,?_⟩;refine⟨_,rfl,_,rfl,_,rfl,fun y dy ny WJ hyd=>?_⟩;have sx:NJ H (az (az H dy (.own y)) y (.ins Cw dy [])):=bq ny (af WJ);refine⟨y,dy,x,t,_,rfl,ac,fun H1 hy b=>⟨rfl,?_⟩⟩;have s1:=cD ny sx b;have XN:=s0.trans s1;have W:W6 C Cs Cw H0 H1 y dy x dx p m c l t (.ref a0) d n sn e (z0 2):=⟨XN,fx,fp,fm,fc,fl,hy,hT,hO.same s1⟩;refine⟨_,rfl,_,rfl,a0,dt,C,f1,_,K7,2,[SN,S0],_,rfl,XN _ _ ho,rfl,Tb.cl,M1,F1,hr.m,B1,_,rfl,_,_,jF n sn e,rfl,(hT.same XN).tb,hT.ok,hT.kn,fun b hb=>?_⟩;have hL:=QS.of hb;obtain⟨pb,q0,gs,ue,rfl,XU,hq0,Wx,Zg⟩:=id hL;refine⟨_,.ref pb,sn,e,rfl,hL,?_⟩;refine⟨_,rfl,_,rfl,pb,_,_,_,rfl,rfl,NL.of XU,cn,H0,y,dy,x,dx,p,m,c,l,t,q0,.ref a0,gs,d,n,sn,e,rfl,W,hq0,Wx,fun H2 W2 b2=>?_⟩;have k2:=b2.kt W.st.ep W.st.em W.st.ec;exact⟨_,rfl,pb,_,_,_,rfl,rfl,NL.of (k2 _ _ XU),ic,q _ _ W2.sm W2.st (PR.kt k2 Zg)⟩
abbrev D7:Stmt:=bO hI 4
def Gw:al [SN,"number",S9] [SN,"number",S9] (ah D7):=bH zk
def D8(F:N1 K "lay_on_pile" "State.lay_on_pile" D7 f fd)(T:Sc K Cs)(B:Bl mg)(EW:bB P w K mg base Cs "end_with" 1 [SN,S8,S3] (dw Cs)):NN P w K mg base br 2 f fd [SN,"number",S9] (tR Cs):=by
 have ZZ:=Gw
 walk_at "o"
 ·obtain⟨x,dx,p,m,c,l,ps,d,rfl,hO,q0,q1⟩:=h;obtain⟨f1,K7,M1,F1,B1⟩:=EW;refine⟨_,(ae (aM (ak Bi (au aH (by rfl) B.len JI (aa (aK (pv 0) rfl) ab)) (pv 2)) (ae (aQ (aR (pv 0) (aa aj (aa aj ab)))) (ag (am cq))) aw) (ae (aQ (fe J7 J1 J0 cg (aK (pv 0) rfl) (aa (pv 1) ab))) (ag (am cq)))),?_⟩;refine⟨_,rfl,x,Cs,dx,_,_,rfl,hO.ex,T.cl,T.n5,rfl,l,_,rfl,.inl (NQ.of hO.el),_,rfl,_,_,rfl,rfl,_,rfl,?_⟩;by_cases h0:d=0
  ·refine bj (b_ (by subst h0;exact Int.le_refl _)) ?_;exact⟨_,rfl,x,dx,Cs,f1,_,K7,1,[SN,S8,S3],_,rfl,hO.ex,rfl,T.cl,M1,F1,hr,B1,x,dx,p,m,c,l,_,_,_,_,_,_,_,_,_,rfl,hO,fun H' h' b=>q0 h0 H' h' b⟩
  ·refine aN (d_ (by show¬((d:Int)<=((0:Nat):Int));lia)) ?_;refine⟨_,rfl,x,Cs,dx,_,_,rfl,hO.ex,T.cl,T.n5,rfl,.inl ⟨rfl,_,NQ.of hO.el⟩,_,rfl,l,_,_,rfl,rfl,hO.el,by show 0<sizeLine;decide,?_⟩;exact q1 h0 _ (hO.setL _) On
def Iz:al [Te] [Te] (ah nY):=bH zk
def vG(F:N1 K "go_back" "go_back" nY f fd)(T:Sc K Cs)(EW:bB P w K mg base Cs "end_with" 1 [SN,S8,S3] (dw Cs)):NN P w K mg base br 2 f fd [Te] (D5 Cs):=by
 have ZZ:=Iz
 walk_at "o"
 ·obtain⟨x,dx,p,m,c,l,ps,rfl,hO,q⟩:=h;obtain⟨f1,K7,M1,F1,B1⟩:=EW;refine⟨_,(ag (aM (wb (aK (pv 0) rfl) (fun _=>rfl)) (ag aU) (ag (aQ (aR (pv 0) (aa aj (aa aj ab))))))),?_⟩;refine⟨_,rfl,x,Cs,dx,_,_,rfl,hO.ex,T.cl,T.n5,rfl,false,.inl ⟨_,NQ.of hO.el,rfl⟩,bJ ?_⟩;exact⟨_,rfl,x,dx,Cs,f1,_,K7,1,[SN,S8,S3],_,rfl,hO.ex,rfl,T.cl,M1,F1,hr,B1,x,dx,p,m,c,l,_,_,_,_,_,_,_,_,_,rfl,hO,fun H' h' b=>q H' h' b⟩
def RE:al [SQ,Te,Uo,Tk,S8] [SQ,Te,Uo,Tk] (ah jb):=bH zk
def pS(F:N1 K "end_given" "end_given" jb f fd)(Tb:Tc K C)(T:Sc K Cs)(GB:Fn P w K mg base "go_back" 2 [Te] (D5 Cs))(EW:bB P w K mg base Cs "end_with" 1 [SN,S8,S3] (dw Cs))(LP:bB P w K mg base Cs "lay_on_pile" 2 [SN,"number",S9] (tR Cs)):NN P w K mg base br 3 f fd [SQ,Te,Uo,Tk] (D6 C Cs):=by
 have ZZ:=RE
 walk_at "o"
 ·obtain⟨H0,x,dx,p,m,c,l,t,v,u,ps,d,n,sn,e,rfl,s0,fx,fl,hT,hk,ht,hu,hO,q⟩:=h;obtain⟨f1,K7,M1,F1,B1⟩:=EW;obtain⟨f2,UZ,M2,F2,B2⟩:=LP;obtain⟨a0,dt,pp,pm,pn,pk,us,rfl,ho,_⟩:=id hT.tb;have ho:=s0 _ _ ho;have ht:=s0 _ _ ht;have sx:∀{H':Hp},NX x H H'->NJ H0 H':=fun b=>cD fx s0 b;refine⟨_,(ae (bS (i:=4) RE.nd (ax ar (pv 2) ai)) (ag (aM (ak aY (pv 4) aj) (ag (iE (pv 1) ai qf)) (ag (aM (ak aY (pv 4) aj) (ag (bQ (pv 1) (ax ar (pv 3) (ax ar (pv 2) ai)) rfl)) (ag (aM (ak aY (pv 4) aj) (ag (aM (bE (aR (pv 1) (aa (aX cA (aK (pv 1) rfl) ai) (aa (aK (pv 0) rfl) ab)))) (ag (bQ (pv 1) (ax ar (pv 3) (ax ar (pv 2) ai)) rfl)) aw)) (ag (aM (ak aY (pv 4) aj) (ag (aQ (ap GB hr rfl (aa (pv 1) ab)))) (ag (aQ (aR (pv 1) (aa (pv 4) (aa (bx (ak aY (pv 4) aj) (ax ar (pv 2) ai) cN) ab)))))))))))))),?_⟩;cases yO hk.2 with
  |next=>
   obtain⟨pe,rfl,hp⟩:=hu;refine⟨_,rfl,pe,_,_,_,rfl,rfl,NL.of hp,bf,?_⟩;refine⟨_,rfl,rfl,_,rfl,bj zk ?_⟩;refine⟨_,rfl,x,Cs,dx,_,_,rfl,hO.ex,T.cl,T.n1,rfl,_,_,rfl,rfl,dx,_,hO.ex,by show 7<1000;decide,?_⟩;rw[rO];exact q _ (sx On) (hO.putX (.int 1) (.str "on") .non)
  |back=>
   obtain⟨pe,rfl,hp⟩:=hu;refine⟨_,rfl,pe,_,_,_,rfl,rfl,NL.of hp,bf,?_⟩;refine⟨_,rfl,rfl,_,rfl,aN zk ?_⟩;refine⟨_,rfl,rfl,_,rfl,aN zk ?_⟩;refine⟨_,rfl,rfl,_,rfl,aN zk ?_⟩;refine⟨_,rfl,rfl,_,rfl,bj zk ?_⟩;exact⟨_,rfl,x,dx,p,m,c,l,ps,rfl,hO,fun H' h' b=>q H' (sx b) h'⟩
  |stop=>
   obtain⟨pe,rfl,hp⟩:=hu;refine⟨_,rfl,pe,_,_,_,rfl,rfl,NL.of hp,bf,?_⟩;refine⟨_,rfl,rfl,_,rfl,aN zk ?_⟩;refine⟨_,rfl,rfl,_,rfl,aN zk ?_⟩;refine⟨_,rfl,rfl,_,rfl,aN zk ?_⟩;refine⟨_,rfl,rfl,_,rfl,aN zk ?_⟩;refine⟨_,rfl,x,dx,Cs,f1,_,K7,1,[SN,S8,S3],_,rfl,hO.ex,rfl,T.cl,M1,F1,hr.m,B1,_,rfl,_,rfl,rfl,_,rfl,aN zk ?_⟩;exact⟨x,dx,p,m,c,l,_,_,_,_,_,_,_,_,_,rfl,hO,fun H' h' b=>q H' (sx b) h'⟩
  |fault z=>
   obtain⟨pe,rfl,hp⟩:=hu;refine⟨_,rfl,pe,_,_,_,rfl,rfl,NL.of hp,bf,?_⟩;refine⟨_,rfl,rfl,_,rfl,aN zk ?_⟩;refine⟨_,rfl,rfl,_,rfl,aN zk ?_⟩;refine⟨_,rfl,rfl,_,rfl,aN zk ?_⟩;refine⟨_,rfl,rfl,_,rfl,aN zk ?_⟩;refine⟨_,rfl,x,dx,Cs,f1,_,K7,1,[SN,S8,S3],_,rfl,hO.ex,rfl,T.cl,M1,F1,hr.m,B1,_,rfl,_,rfl,rfl,_,rfl,bj zk ?_⟩;exact⟨_,rfl,pe,_,_,_,rfl,rfl,NL.of hp,cn,x,dx,p,m,c,l,_,_,_,_,_,_,_,_,_,rfl,hO,fun H' h' b=>q H' (sx b) h'⟩
  |go j hj=>
   obtain⟨pe,rfl,hp⟩:=hu;refine⟨_,rfl,pe,_,_,_,rfl,rfl,NL.of hp,bf,?_⟩;refine⟨_,rfl,rfl,_,rfl,aN zk ?_⟩;refine⟨_,rfl,rfl,_,rfl,bj zk ?_⟩;refine⟨_,rfl,_,rfl,pe,_,_,_,rfl,rfl,NL.of hp,cn,t,_,_,_,rfl,rfl,NL.of ht,bD (yP hj),?_⟩;refine⟨_,rfl,x,Cs,dx,_,rfl,hO.ex,T.cl,T.n1,by show 7<1000;decide,?_⟩;rw[rO];exact q _ (sx On) (hO.putX (.int ((10+j:Nat):Int)) (.str "on") .non)
  |call j hj=>
   obtain⟨pe,rfl,hp⟩:=hu;refine⟨_,rfl,pe,_,_,_,rfl,rfl,NL.of hp,bf,?_⟩;refine⟨_,rfl,rfl,_,rfl,aN zk ?_⟩;refine⟨_,rfl,rfl,_,rfl,aN zk ?_⟩;refine⟨_,rfl,rfl,_,rfl,bj zk ?_⟩;refine⟨_,rfl,x,dx,Cs,f2,_,UZ,2,[SN,"number",S9],_,rfl,hO.ex,rfl,T.cl,M2,F2,hr,B2,_,rfl,x,Cs,dx,_,_,rfl,hO.ex,T.cl,T.n1,rfl,_,_,rfl,rfl,_,rfl,a0,C,dt,_,_,rfl,ho,Tb.cl,Tb.na S9 zk,rfl,?_⟩;refine⟨x,dx,p,m,c,l,ps,d,rfl,hO,fun h0 H' h' b=>⟨_,rfl,bJ ?_⟩,fun h0 H' h' b=>⟨_,rfl,eQ ?_⟩⟩
   ·exact q _ (sx b) (by rw[D3 h0];exact h')
   ·have sb:=cD fl s0 b;have ne:∀{a:Ux}{us:UG},H a=some (.tup us)->H' a=some (.tup us):=fun g=>b _ _ g (by rintro rfl;rw[hO.el]at g;cases g);refine⟨_,rfl,_,rfl,pe,_,_,_,rfl,rfl,NL.of (ne hp),cn,t,_,_,_,rfl,rfl,NL.of (ne ht),bD (yP hj),?_⟩;refine⟨_,rfl,x,Cs,dx,_,rfl,h'.ex,T.cl,T.n1,by show 7<1000;decide,?_⟩;rw[rO];exact q _ (bq fx sb) (by rw[Gv h0];exact h'.putX (.int ((10+j:Nat):Int)) (.str "on") .non)
def Rb:al [SQ,Te,Tn,"behind",Uo] [SQ,Te,Tn] (ah kM):=bH zk
def rW(F:N1 K "row_done" "row_done" kM f fd)(T:Sc K Cs)(NS:Fn P w K mg base "need_single" 7 [SQ,Te,Tn] (yE C Cs))(CO:bB P w K mg base Cs "copied" 3 [SN] (ip Cs))(RG:Fn P w K mg base "row_given" 8 [SQ,Te,Tn] (D4 C Cs))(EG:Fn P w K mg base "end_given" 3 [SQ,Te,Uo,Tk] (D6 C Cs)):NN P w K mg base br 9 f fd [SQ,Te,Tn] (A0 C Cs):=by
 have ZZ:=Rb
 walk_at "o"
 ·obtain⟨x,dx,p,m,c,l,v,r,d,n,sn,e,rfl,hT,hk,hr',hO,q⟩:=h;obtain⟨f1,K7,M1,F1,B1⟩:=CO;refine⟨_,(ae (aQ (ap NS hr.m rfl (aa (pv 0) (aa (pv 1) (aa (pv 2) ab))))) (ae (bS (i:=3) Rb.nd (aW (pv 1))) (ae (bS (i:=4) Rb.nd (ap RG hr rfl (aa (pv 0) (aa (pv 3) (aa (pv 2) ab))))) (ae (aQ (ap EG hr.m rfl (aa (pv 0) (aa (pv 3) (aa (pv 4) (aa (ax ar (pv 2) ai) ab)))))) (ag (am (pv 3))))))),?_⟩;refine⟨_,rfl,_,rfl,_,rfl,v,r,d,n,sn,e,x,dx,p,m,c,l,_,_,_,_,_,_,rfl,hT,hk.1,hr',hO,fun H1 s1=>?_⟩;refine⟨_,rfl,x,dx,Cs,f1,_,K7,3,[SN],_,rfl,s1 _ _ hO.ex,rfl,T.cl,M1,F1,hr.m,B1,x,dx,p,m,c,l,_,_,_,_,_,_,_,rfl,hO.same s1,fun H2 x' Vu p' m' c' l' s2 hO' fx fp fm fc fl=>?_⟩;have K5:=hr'.same s1;obtain⟨pr,t,rfl,hpr,ht⟩:=id K5;refine⟨_,rfl,_,rfl,_,rfl,H1,x',Vu,p',m',c',l',v,.ref pr,d,n,sn,e,rfl,s2,fx,fp,fm,fc,fl,hT.same s1,K5,hO',fun u H3 s3 hO3 hu=>?_⟩;refine⟨_,rfl,_,rfl,_,rfl,_,rfl,pr,_,_,_,rfl,rfl,NL.of (s3 _ _ hpr),cn,H1,x',Vu,p',m',c',l',t,v,u,vP sn,d,n,sn,e,rfl,s3,fx,fl,hT.same s1,hk,ht,hu,hO3,fun H4 s4 hR=>?_⟩;exact⟨_,rfl,q x' Vu p' m' c' l' H4 (s1.trans s4) hR⟩
end
end L3
namespace L2
open PySem PySem.Spec PyProof.Rows
def pT{X:Cx}:cH X (.type "range") (fun xs H Q=>∃n:Nat,xs=[.int 0,.int n]/\∀p,H p=none->Q (.ref p) (az H p (.rng 0 n))):=by
 intro K3 s σ H xs us Q I r h;obtain⟨n,rfl,q⟩:=h;cases r with
 |cons r1 rr=>
 cases rr with
 |cons r2 rr=>
 cases rr;obtain⟨t,rfl⟩:=(show ∃t,_=Value.int 0 t from r1);obtain⟨t',rfl⟩:=(show ∃t,_=Value.int (n:Int) t from r2);refine call_range_2 ⟨.ref _,_,I.laid (fun b u e=>Jz _ e) (JB _) ?_,rfl,q _ I.fresh⟩;exact⟨_,_,_,JG _ rfl⟩
def yQ{lo:Int}{n:Nat}(Pv:Nat->UG->Hp->Prop)(h0:Pv 0 ys H)(hl:∀i ys H,i<=n->Pv i ys H->ys.length<=sizeLine)
  (hs:∀i ys H,i<n->Pv i ys H->g (.int (lo+i)) σ H fun σ2 H2=>Ob σ σ2/\tf σ2 H2 fun b H3=>if b=true then te σ2 H3 fun y H4=>Nx Pv n i (ys++[y]) H4 else Nx Pv n i ys H3)
  (hd:∀ys H,Pv n ys H->Q ys H):pH (zr lo n) g tf te σ ys H Q:=by
 refine⟨fun i m ys H=>m=n-i/\i<=n/\Pv i ys H,⟨n,by simp,JN _,h0⟩,?_⟩;rintro i m ys H ⟨rfl,hi,p⟩;have hz:=hl i ys H hi p;by_cases Ld:i<n
 ·refine .inr ⟨Ld,hz,fun x H' y=>?_⟩;obtain⟨e1,e2⟩:=y;subst e1 e2;exact hs i ys _ Ld p
 ·have e:i=n:=by lia
  subst e;exact .inl ⟨JB _,hz,hd ys H p⟩
def yR{K:ZF}(Pv:Nat->UG->Hp->Prop)(h0:Pv 0 [] H)(hl:∀i ys H,i<=xs.length->Pv i ys H->NQ K H l xs/\ys.length<=sizeLine)
  (hs:∀i x ys H T,xs[i]?=some x->H T=none->Pv i ys H->g (.ref T) (eG ix σ) (az H T (.tup [.int i,x])) fun σ2 H2=>Ob (eG ix σ) σ2/\Vx σ2 H2 fun J2 H3=>pH J2 g2 tf te σ2 ys H3 fun F' H4=>Nx Pv xs.length i F' H4)
  (hd:∀ys H,Pv xs.length ys H->∀D,H D=none->Q (.ref D) (az H D (.lst ys))):tu (CQ K l) g Vx g2 tf te ix σ H Q:=by
 refine⟨fun i m ys H=>m=xs.length-i/\i<=xs.length/\Pv i ys H,⟨xs.length,by simp,JN _,h0⟩,?_⟩;rintro i m ys H ⟨rfl,hi,p⟩;obtain⟨q,hz⟩:=hl i ys H hi p;by_cases Ld:i<xs.length
 ·refine .inr ⟨⟨xs,xs[i],q,by simp[Ld]⟩,fun v H' y=>?_⟩;obtain⟨T,x,e1,hT,e2,hy⟩:=y;subst e1 e2;exact hs i x ys H T (hy xs q) hT p
 ·have e:i=xs.length:=by lia
  subst e;exact .inl ⟨⟨xs,q,JB _⟩,hz,hd ys H p⟩
end L2
namespace L3
open PySem L2
abbrev nZ:Stmt:=top 90
abbrev rX:Stmt:=top 91
abbrev kN:Stmt:=top 89
abbrev jd:Stmt:=top 92
abbrev oa:Stmt:=top 93
abbrev iq:Stmt:=top 94
structure Zq(mg:Str->Option Uw)(t1 t2:Tok):Prop where
 wt:mg "WORDS_TRIED"=some (.int 4 t1)
 fr:mg "FIRST_ROW_TRIED"=some (.int 10 t2)
inductive kO(vs:UG)(H:Hp)(Q:VK)(Z3:XK):Prop
 |mk(v:V)(a:Ux)(k:Nat):vs=[v,.ref a,.int (k:Int)]->H a=some (.tup [])->(∀l H',NJ H H'->H' l=some (.lst (eK (List.range 4)))->Q (.ref l) H')->kO vs H Q Z3
inductive oe(vs:UG)(H:Hp)(Q:VK)(Z3:XK):Prop
 |mk(a:Ux)(k:Nat):vs=[.ref a,.int (k:Int)]->H a=some (.tup [])->(∀l H',NJ H H'->H' l=some (.lst (eK (List.range 2)))->Q (.ref l) H')->oe vs H Q Z3
inductive P2(H:Hp)(v:V)(x:Str×Nat×Nat):Prop
 |mk(t w:Ux):v=.ref t->H t=some (.tup [.str x.1,.int (x.2.1:Int),.ref w])->H w=some (.lst (eK (List.range x.2.2)))->1<=x.2.2->P2 H v x
def P2.same{H H':Hp}{v:V}{x:Str×Nat×Nat}(s:NJ H H')(h:P2 H v x):P2 H' v x:=by obtain⟨t,w,a,b,c,d⟩:=h;exact ⟨t,w,a,s _ _ b,s _ _ c,d⟩
def P4:List (Str×Nat×Nat):=[(SU,0,4),(SU,1,4),(S2,0,2)]
inductive rY(C:Ux)(vs:UG)(H:Hp)(Q:VK)(Z3:XK):Prop
 |mk(v:V)(a:Ux)(d n s:Nat)(e:Ee):vs=[v,.str Uv,.ref a]->Tv C H v d n s e->n<=3->H a=some (.tup [])->(∀l us H',NJ H H'->H' l=some (.lst us)->Paired (P2 H') us P4->Q (.ref l) H')->rY C vs H Q Z3
inductive og(vs:UG)(H:Hp)(Q:VK)(Z3:XK):Prop
 |mk(l:Ux)(us:UG):vs=[.ref l]->H l=some (.lst us)->Paired (P2 H) us P4->(∀r d A' H',NJ H H'->H' r=some (.lst (.ref d::A'))->H' d=some (.dK [])->Q (.ref r) H')->og vs H Q Z3
inductive oh(C:Ux)(vs:UG)(H:Hp)(Q:VK)(Z3:XK):Prop
 |mk(v ch gv:V)(d n s:Nat)(e:Ee):vs=[v,.str Uv,ch,gv]->Tv C H v d n s e->n<=3->(∀t H',NJ H H'->H' t=some (.tup (fM (i8 n)))->Q (.ref t) H')->oh C vs H Q Z3
inductive je(C:Ux)(vs:UG)(H:Hp)(Q:VK)(Z3:XK):Prop
 |mk(v:V)(d n s:Nat)(e:Ee):vs=[v]->Tv C H v d n s e->(∀l c A' H',NJ H H'->H' l=some (.lst (.ref c::A'))->H' c=some (.lst (z0 7))->Q (.ref l) H')->je C vs H Q Z3
variable{P:Uz}{w:UA}{K:ZF}{mg:Str->Option Uw}{base:Heap}{C fi aS aE aF aO:Ux}{t1 t2 t3 t4 t5 tM:Tok}
def QL:al [SQ,SX,"number","truth","least"] [SQ,SX,"number"] (ah nZ):=bH zk
def vI(F:N1 K "place_words" "place_words" nZ f fd)(B:Bl mg)(Z:Zq mg t1 t2)(DE:Fn P w K mg base "decided" 1 [SX,Uc] O6):NN P w K mg base br 2 f fd [SQ,SX,"number"] kO:=by
 have ZZ:=QL
 walk_at "o"
 ·obtain⟨v,a,k,rfl,ha,q⟩:=h;refine⟨_,(ae (bS (i:=3) QL.nd (ap DE hr rfl (aa (pv 1) (aa (av (aa aj (aa (pv 2) ab))) ab)))) (ae (aM (ak fO (pv 3) cq) (ag (am (bF (aa ai ab)))) aw) (ae (bS (i:=4) QL.nd (bx (ak iC (pv 3) cN) ai ai)) (ae (aM (ak fO (ap DE hr rfl (aa (pv 1) (aa (av (aa aj (aa (pv 2) ab))) ab))) cq) (ag aU) aw) (ag (am (aV (gw rfl) (by rfl) B.list cm (aa (aV pT (by rfl) B.range jm (aa (pv 4) (aa (aX cA (pv 4) (be (v:=.int 4) rfl Z.wt ⟨_,rfl⟩)) ab))) ab)))))))),?_⟩;refine⟨_,rfl,_,rfl,N0,fun p1 n1=>?_⟩;have s1:=af (o:=.tup [.str SU,.int (k:Int)]) n1;have e1:az H p1 (.tup [.str SU,.int (k:Int)]) p1=some (.tup [.str SU,.int (k:Int)]):=ac;generalize az H p1 (.tup [.str SU,.int (k:Int)])=H1 at*;refine⟨a,p1,SU,k,rfl,s1 _ _ ha,e1,fun H2 s2=>?_⟩;refine⟨_,rfl,false,rfl,.inl rfl,_,rfl,bJ ?_⟩;refine⟨_,rfl,rfl,_,rfl,bj zd ?_⟩;refine⟨_,rfl,_,rfl,N0,fun p3 n3=>?_⟩;have s3:=af (o:=.tup [.str T9,.int (k:Int)]) n3;have e3:az H2 p3 (.tup [.str T9,.int (k:Int)]) p3=some (.tup [.str T9,.int (k:Int)]):=ac;generalize az H2 p3 (.tup [.str T9,.int (k:Int)])=H3 at*;have Vj:=(s1.trans s2).trans s3;refine⟨a,p3,T9,k,rfl,Vj _ _ ha,e3,fun H4 s4=>?_⟩;refine⟨true,rfl,.inl rfl,_,rfl,bJ ?_⟩;refine⟨_,rfl,_,rfl,_,_,rfl,rfl,4,rfl,fun p5 n5=>?_⟩;have s5:=af (o:=.rng 0 4) n5;have e5:az H4 p5 (.rng 0 4) p5=some (.rng 0 4):=ac;generalize az H4 p5 (.rng 0 4)=H5 at*;refine⟨p5,4,rfl,e5,zd,fun l nl=>?_⟩;exact q _ _ (((Vj.trans s4).trans s5).trans (af nl)) ac
def RH:al [SX,"number","truth"] [SX,"number"] (ah rX):=bH zk
def yS(F:N1 K "mark_bits" "mark_bits" rX f fd)(DE:Fn P w K mg base "decided" 1 [SX,Uc] O6):NN P w K mg base br 2 f fd [SX,"number"] oe:=by
 have ZZ:=RH
 walk_at "o"
 ·obtain⟨a,k,rfl,ha,q⟩:=h;refine⟨_,(ae (bS (i:=2) RH.nd (ap DE hr rfl (aa (pv 0) (aa (av (aa aj (aa (pv 1) ab))) ab)))) (ag (am (bx (ak iC (pv 2) cN) (bF (aa ai (aa ai ab))) rL)))),?_⟩;refine⟨_,rfl,_,rfl,N0,fun p1 n1=>?_⟩;have s1:=af (o:=.tup [.str S2,.int (k:Int)]) n1;have e1:az H p1 (.tup [.str S2,.int (k:Int)]) p1=some (.tup [.str S2,.int (k:Int)]):=ac;generalize az H p1 (.tup [.str S2,.int (k:Int)])=H1 at*;refine⟨a,p1,S2,k,rfl,s1 _ _ ha,e1,fun H2 s2=>?_⟩;exact⟨_,rfl,rfl,_,rfl,bj zd ⟨N0,fun l nl=>q _ _ ((s1.trans s2).trans (af nl)) ac⟩⟩
def QU:al [SQ,S0,SX,TN,TV] [SQ,S0,SX] (ah kN):=bH zk
def A1:(["name",Tg]:UD).Nodup:=by decide +kernel
def ID:(["j",TN]:UD).Nodup:=by decide +kernel
def Gx:(["number",SX,SQ]:UD).Nodup:=by decide +kernel
def IE:(["number",SX]:UD).Nodup:=by decide +kernel
def tT{n i:Nat}{fx:Str×Str}(h:(jp n)[i]?=some fx):fx.2=Tn:=by
 obtain⟨j,_,rfl⟩:=Ks.mp (JP h);rfl
abbrev jq(n:Nat):UG:=List.replicate n (.str Tn)
def A2(F:N1 K "free_things" "free_things" kN f fd)(B:Bl mg)(T:Tc K C)(FO:bB P w K mg base C "fields_of" 2 [SN,S0] (pE C))(ZB:Fn P w K mg base "place_words" 2 [SQ,SX,"number"] kO)(MB:Fn P w K mg base "mark_bits" 2 [SX,"number"] oe):NN P w K mg base br 3 f fd [SQ,S0,SX] (rY C):=by
 have ZZ:=QU
 walk_at "o"
 ·obtain⟨v,a,d,n,sn,e,rfl,hT,hn,ha,q⟩:=h;obtain⟨a0,dx,pp,pm,pn,pk,us,rfl,ho,T',UK,_⟩:=id hT.tb;have T':H pp=some (.tup [.str "a",.str "b"]):=T';have UK:H pm=some (.tup [.str "m"]):=UK;have sz:(100:Nat)<=sizeLine:=by decide
  obtain⟨f1,K7,M1,F1,B1⟩:=FO;refine⟨_,(ae (iA (i:=3) QU.nd rfl (Or.inr rfl) (cI (N':=["name",Tg]) (ix:=[none,none]) (sc0:=ah kN) (N:=[SQ,S0,SX,TN,TV]) rfl zk (cK (ma (pv 0) T.cl M1 F1 hr B1 .nil dR (aa (pv 1) ab))) (fun _ _ _ _ _=>(c9 (K:=K) (n:=2) rfl rfl (aq (bM (i:=0) A1) (aq (bM (i:=1) A1) bi)))) (fun _ _ _ _ _=>bz) (fun _ _ _ _ _=>(pv 1)))) (ae (dh (i:=4) QU.nd rfl rfl (N':=["j",TN]) (ix:=[none,some 3]) (sc0:=ah kN) (N:=[SQ,S0,SX,TN,TV]) rfl zk (cF rfl B.range (aa (au aH (by rfl) B.len JI (aa (pv 3) ab)) ab)) (fun _ _ _ _ _=>(bM (i:=0) ID)) (fun _ _ _ _ _=>(qo (ak aY (ax (pq (K:=K) rfl) (pv 1) (pv 0)) aj))) (fun _ _ _ _ _=>rL)) (ae (lW (i:=4) QU.nd rfl (Or.inl rfl) (cI (N':=["number",SX,SQ]) (ix:=[none,some 2,some 0]) (sc0:=ah kN) (N:=[SQ,S0,SX,TN,TV]) rfl zk (cF rfl B.range (aa (au aH (by rfl) B.len JI (aa (aK (pv 0) rfl) ab)) ab)) (fun _ _ _ _ _=>(bM (i:=0) Gx)) (fun _ _ _ _ _=>bz) (fun _ _ _ _ _=>(av (aa aj (aa (pv 0) (aa (ap ZB hr rfl (aa (pv 2) (aa (pv 1) (aa (pv 0) ab)))) ab)))))) DB) (ag (am (aX ei (pv 4) (cI (N':=["number",SX]) (ix:=[none,some 2]) (sc0:=ah kN) (N:=[SQ,S0,SX,TN,TV]) rfl zk (cF rfl B.range (aa (au aH (by rfl) B.len JI (aa (aK (pv 0) rfl) ab)) ab)) (fun _ _ _ _ _=>(bM (i:=0) IE)) (fun _ _ _ _ _=>bz) (fun _ _ _ _ _=>(av (aa aj (aa (pv 0) (aa (ap MB hr rfl (aa (pv 1) (aa (pv 0) ab))) ab)))))))))))),?_⟩;refine⟨_,rfl,a0,dx,_,rfl,ho,rfl,_,rfl,_,_,jF n sn e,rfl,hT.tb,hT.ok,hT.kn,fun tf fu Vb Vc=>?_⟩;have WA:fu.length=n:=by rw[Vc.length];unfold jF jp;simp
  refine⟨tf,rfl,⟨_,NL.of Vb⟩,?_⟩;refine iH (K:=K) (a:=tf) (xs:=fu) (fun i ys H'=>H'=H/\ys=jq i) ⟨rfl,rfl⟩ (fun i ys H' hi⟨eh,ey⟩=>⟨by rw[eh];exact NL.of Vb,by rw[ey,JM];lia⟩) ?_ ?_
  ·rintro i u ys H' hu ⟨rfl,rfl⟩;obtain⟨fx,Yu,pf,rfl,Xt⟩:=cM Vc hu;have Vd:=tT Yu;refine⟨pf,_,rfl,NL.of Xt,rfl,_,_,rfl,_,_,rfl,rfl,trivial,bC ⟨_,rfl,?_⟩⟩;refine Nx.mk (JA.mp hu).1 ⟨rfl,?_⟩;rw[Vd];exact List.replicate_succ'.symm
  rintro ys H' ⟨rfl,rfl⟩ ls Xq;rw[WA];have s1:=af (o:=.lst (jq n)) Xq;have e1:az H' ls (.lst (jq n)) ls=some (.lst (jq n)):=ac;generalize az H' ls (.lst (jq n))=H1 at*;refine⟨_,rfl,ls,_,rfl,.inl (NQ.of e1),_,rfl,zo,by rw[JM];lia,?_⟩;rw[JM];refine di (lo:=0) (n:=n) (fun i ys H2=>H2=H1/\ys=[]) ⟨rfl,rfl⟩ (fun i ys H' hi⟨_,e⟩=>by rw[e];exact JN _) ?_ ?_
  ·rintro i ys H2 hi ⟨rfl,rfl⟩;rw[Pi];refine⟨⟨rfl,trivial⟩,?_⟩;refine⟨_,rfl,_,rfl,ls,_,_,_,rfl,rfl,NQ.of e1,bD (v:=.str Tn) (by rw[RW,g_ hi]),rfl,_,rfl,aN zk ?_⟩;exact Nx.mk hi ⟨rfl,rfl⟩
  rintro ys H2 ⟨rfl,rfl⟩ lt nlt;have s2:=af (o:=.lst []) nlt;have e2:az H2 lt (.lst []) lt=some (.lst []):=ac;generalize az H2 lt (.lst [])=H3 at*;have u3:=s1.trans s2;have fl:H' lt=none:=none_of s1 nlt;refine⟨_,rfl,_,rfl,a0,C,dx,_,_,rfl,u3 _ _ ho,T.cl,T.na SZ zk,rfl,pp,_,rfl,.inr (NL.of (u3 _ _ T')),_,rfl,by show -(2^62:Int)<=((2:Nat):Int);decide,by show((2:Nat):Int)<2^62;decide,?_⟩;refine di (lo:=0) (n:=2) (fun i ys H4=>NJ H3 H4/\ys.length=i/\Paired (P2 H4) ys (P4.take i)) ⟨NJ.refl _,rfl,.nil⟩ (fun i ys H4 hi⟨_,e,_⟩=>by rw[e];lia) ?_ ?_
  ·rintro i ys H4 hi ⟨s4,l4,p4⟩;rw[Pi];have u4:=u3.trans s4;refine⟨⟨rfl,rfl,trivial⟩,bC ?_⟩;refine⟨_,rfl,_,rfl,_,rfl,_,rfl,_,a,i,rfl,u4 _ _ ha,fun w H5 s5 hw=>?_⟩;refine⟨N0,fun t6 n6=>?_⟩;have s6:=af (o:=.tup [.str SU,.int (i:Int),.ref w]) n6;have e6:az H5 t6 (.tup [.str SU,.int (i:Int),.ref w]) t6=some (.tup [.str SU,.int (i:Int),.ref w]):=ac;refine Nx.mk hi ⟨(s4.trans s5).trans s6,by rw[JH,l4];rfl,?_⟩;have hfi:P4[i]?=some (((SU:Str),i,4):Str×Nat×Nat):=by
    match i,hi with
    |0,_=>rfl
    |1,_=>rfl
   rw[Kh,hfi];exact ff (y:=((SU:Str),i,4)) ⟨t6,w,rfl,e6,s6 _ _ hw,(by decide:1<=4)⟩ (bW (fun _ _ h=>P2.same (s5.trans s6) h) p4)
  rintro ys H4 ⟨s4,l4,p4⟩ lp nlp;have s5:=af (o:=.lst ys) nlp;have e5:az H4 lp (.lst ys) lp=some (.lst ys):=ac;generalize az H4 lp (.lst ys)=H5 at*;have X0:=(s4.trans s5) _ _ e2;refine⟨lt,lp,_,_,rfl,rfl,X0,e5,by rw[l4];show 2<=sizeLine;decide,?_⟩;have s6:NJ H' (az H5 lt (.lst ([]++ys))):=bq fl ((u3.trans s4).trans s5);have e6:az H5 lt (.lst ([]++ys)) lt=some (.lst ys):=ac;have p6:Paired (P2 (az H5 lt (.lst ([]++ys)))) ys (P4.take 2):=by
   refine bW (fun v x h=>?_) p4;obtain⟨t,w,ev,ht,hw,hm⟩:=P2.same s5 h;refine⟨t,w,ev,?_,?_,hm⟩
   ·rw[ao (by rintro rfl;rw[X0]at ht;cases ht)];exact ht
   ·rw[ao (by rintro rfl;rw[X0]at hw;have:=i_ List.length (HO.lst.inj (JS hw));unfold eK at this;rw[JC,k_]at this;exact absurd hm (by rw[<-this];decide))];exact hw
  generalize az H5 lt (.lst ([]++ys))=H6 at*;refine⟨_,rfl,_,rfl,a0,C,dx,_,_,rfl,s6 _ _ ho,T.cl,T.na S5 zk,rfl,pm,_,rfl,.inr (NL.of (s6 _ _ UK)),_,rfl,by show -(2^62:Int)<=((1:Nat):Int);decide,by show((1:Nat):Int)<2^62;decide,?_⟩;refine di (lo:=0) (n:=1) (fun i zs H7=>NJ H6 H7/\zs.length=i/\Paired (P2 H7) zs ((P4.drop 2).take i)) ⟨NJ.refl _,rfl,.nil⟩ (fun i ys H4 hi⟨_,e,_⟩=>by rw[e];lia) ?_ ?_
  ·rintro i zs H7 hi ⟨s7,l7,p7⟩;have i0:i=0:=by lia
   subst i0;have u7:=s6.trans s7;refine⟨⟨rfl,trivial⟩,bC ?_⟩;refine⟨_,rfl,_,rfl,_,rfl,a,0,rfl,u7 _ _ ha,fun w H8 s8 hw=>?_⟩;refine⟨N0,fun t9 n9=>?_⟩;have s9:=af (o:=.tup [.str S2,.int ((0:Nat):Int),.ref w]) n9;have e9:az H8 t9 (.tup [.str S2,.int ((0:Nat):Int),.ref w]) t9=some (.tup [.str S2,.int ((0:Nat):Int),.ref w]):=ac;refine Nx.mk hi ⟨(s7.trans s8).trans s9,by rw[JH,l7];rfl,?_⟩;exact ff (y:=((S2:Str),0,2)) ⟨t9,w,rfl,e9,s9 _ _ hw,(by decide:1<=2)⟩ (bW (fun _ _ h=>P2.same (s8.trans s9) h) p7)
  rintro zs H7 ⟨s7,l7,p7⟩ lm nlm;have s8:=af (o:=.lst zs) nlm;have e8:az H7 lm (.lst zs) lm=some (.lst zs):=ac;generalize az H7 lm (.lst zs)=H8 at*;have u8:=s7.trans s8;refine⟨lt,lm,_,_,rfl,rfl,u8 _ _ e6,e8,by rw[l4,l7];show 3<=sizeLine;decide,fun l9 n9=>?_⟩;have s9:=af (o:=.lst (ys++zs)) n9;refine q l9 (ys++zs) _ ((s6.trans u8).trans s9) ac ?_;have pa:=bW (fun _ _ h=>P2.same (u8.trans s9) h) p6;have pb:=bW (fun _ _ h=>P2.same (s8.trans s9) h) p7;cases pa with
  |cons x1 r1=>
  cases r1 with
  |cons x2 r2=>
  cases r2;cases pb with
  |cons x3 r3=>
  cases r3;exact .cons x1 (.cons x2 (.cons x3 .nil))
end L3
namespace L2
open PySem PySem.Spec PyProof.Rows
def pU{X:Cx}{K:ZF}(h:X.K=K):Fk X (Cr K):=by subst h;exact mj
end L2
namespace L3
open PySem L2
inductive Rj(H:Hp)(v:V):Prop
 |mk(t:Ux)(k p:Int):v=.ref t->H t=some (.tup [.int k,.int p])->Rj H v
section
variable{H H':Hp}
def Rj.same{v:V}(s:NJ H H')(h:Rj H v):Rj H' v:=by obtain⟨t,k,p,a,b⟩:=h;exact ⟨t,k,p,a,s _ _ b⟩
def D9:∀x∈P4,1<=x.2.2/\x.2.2<=4:=by decide +kernel
variable{k1 v1:Int}{d p1:Ux}
def IF(nd:H d=none)(h1:H p1=some (.tup [.int k1,.int v1])):∃H2,gP d (az H d (.dK [])) [.ref p1] H2/\NJ H H2:=by
 have s1:=af (o:=.dK []) nd;refine⟨_,.cons (s1 _ _ h1) (Oh.k (k:=.inl k1) ac zd) .nil,bq nd s1⟩
def IG{d p1 p2:Ux}{k1 v1 k2 v2:Int}(nd:H d=none)(h1:H p1=some (.tup [.int k1,.int v1]))(h2:H p2=some (.tup [.int k2,.int v2])):∃H2,gP d (az H d (.dK [])) [.ref p1,.ref p2] H2/\NJ H H2:=by
 have s1:=af (o:=.dK []) nd;have s2:NJ H (az (az H d (.dK [])) d (.dK (er [] (.inl k1) (.int v1)))):=bq nd s1;refine⟨_,.cons (s1 _ _ h1) (Oh.k (k:=.inl k1) ac zd) (.cons (s2 _ _ h2) (Oh.k (k:=.inl k2) ac ?_) .nil),bq nd s2⟩;have:=dj ([]:List (dm×V)) (.inl k1) (.int v1);have sz:(100:Nat)<=sizeLine:=by decide
 have:(er ([]:List (dm×V)) (.inl k1) (.int v1)).length<=1:=this;lia
variable{P:Uz}{w:UA}{K:ZF}{mg:Str->Option Uw}{base:Heap}{C fi aS aE aF aO:Ux}{t1 t2 t3 t4 t5 tM:Tok}
def Q8:al [Um,Ug,"doubles"] [Um] (ah jd):=bH zk
def ir:([Ui,Tg,"number",Ti,"pick"]:UD).Nodup:=by decide +kernel
def BR:([Th,S4,Ug]:UD).Nodup:=by decide +kernel
def Gy:([Th]:UD).Nodup:=by decide +kernel
def yT(F:N1 K "picks_of" "picks_of" jd f fd)(B:Bl mg)(B3:BE mg):NN P w K mg base br 1 f fd [Um] og:=by
 have ZZ:=Q8
 walk_at "o"
 ·obtain⟨l,us,rfl,hl,K9,q⟩:=h;have hr0:NZ 0 _:=hr;have sz:(1000:Nat)<=sizeLine:=by decide
  have Xr:us.length=3:=K9.length;refine⟨_,(ae (iA (i:=1) Q8.nd rfl (Or.inr rfl) (rm (N':=[Ui,Tg,"number",Ti,"pick"]) (ix:=[none,none,none,none,none]) (sc0:=ah jd) (N:=[Um,Ug,"doubles"]) rfl zk (mv rfl B3.enumerate (aa (pv 0) ab)) (fun C cl s H fp=>(c9 (K:=K) (n:=2) rfl rfl (aq (bM (i:=0) ir) (aq (c9 (K:=K) (n:=3) rfl rfl (aq (bM (i:=1) ir) (aq (bM (i:=2) ir) (aq (bM (i:=3) ir) bi)))) bi)))) (fun C cl s H fp=>(uj rfl B.range (aa ai (aa (au (xq (K:=K) rfl) (by rfl) B.len JI (aa (pv 3) ab)) ab)))) (fun C cl s H fp=>(bM (i:=4) ir)) (fun C cl s H fp=>bz) (fun C cl s H fp=>(av (aa (pv 0) (aa (pv 4) ab)))))) (ae (lN (i:=2) Q8.nd rfl rfl (N':=[Th,S4,Ug]) (ix:=[none,none,some 1]) (sc0:=ah jd) (N:=[Um,Ug,"doubles"]) rfl zk (bV (pv 1)) (fun C cl s H fp=>(bM (i:=0) BR)) (fun C cl s H fp=>(kD (K:=K) rfl (pv 2))) (fun C cl s H fp=>(bM (i:=1) BR)) (fun C cl s H fp=>(qo (ak dM (ax (ia (K:=K) rfl) (pv 0) ai) (ax (ia (K:=K) rfl) (pv 1) ai)))) (fun C cl s H fp=>(aV (eY hr) (by rfl) B3.dict dI (aa (bF (aa (pv 0) (aa (pv 1) ab))) ab)))) (ag (am (aX ei (aX ei (bF (aa j5 ab)) (cI (N':=[Th]) (ix:=[none]) (sc0:=ah jd) (N:=[Um,Ug,"doubles"]) rfl zk (bV (pv 1)) (fun _ _ _ _ _=>(bM (i:=0) Gy)) (fun _ _ _ _ _=>bz) (fun _ _ _ _ _=>(aV (eY hr) (by rfl) B3.dict dI (aa (bF (aa (pv 0) ab)) ab))))) (pv 2)))))),?_⟩;refine⟨_,rfl,l,rfl,⟨_,NQ.of hl⟩,?_⟩;refine yR (K:=K) (l:=l) (xs:=us) (fun i ys H'=>NJ H H'/\ys.length<=i*3/\∀v∈ys,Rj H' v) ⟨NJ.refl _,JN _,fun _ z=>nomatch z⟩ (fun i ys H' hi⟨s1,h1,_⟩=>⟨NQ.of (s1 _ _ hl),zo⟩) ?_ ?_
  ·rintro i x ys H1 T1 hx nT ⟨s1,l1,r1⟩;have hi:=(JA.mp hx).1;obtain⟨xd,Zf,fx⟩:=cM K9 hx;obtain⟨m1,m4⟩:=D9 xd (JP Zf);have sT:=af (o:=.tup [.int i,x]) nT;have eT:az H1 T1 (.tup [.int i,x]) T1=some (.tup [.int i,x]):=ac;generalize az H1 T1 (.tup [.int i,x])=H2 at*;have u2:=s1.trans sT;obtain⟨pt,pw,rfl,hpt,Ym,_⟩:=fx.same u2;refine⟨T1,_,rfl,NL.of eT,rfl,_,_,rfl,_,_,rfl,pt,_,rfl,NL.of hpt,rfl,_,_,rfl,_,_,rfl,_,_,rfl,rfl,rfl,trivial,?_⟩;refine⟨_,rfl,pw,_,rfl,.inl (NQ.of Ym),_,_,rfl,⟨zd,zd,zo,by unfold eK;rw[JC,k_];lia⟩,?_⟩;have en:(((eK (List.range xd.2.2)).length:Int)-1).toNat=xd.2.2-1:=by unfold eK;rw[JC,k_];lia
   rw[en];refine yQ (lo:=1) (n:=xd.2.2-1) (fun j F' H'=>NJ H2 H'/\F'.length<=i*3+j/\∀v∈F',Rj H' v) ⟨NJ.refl _,zo,fun v hv=>(r1 v hv).same sT⟩ (fun j F' H' hj⟨_,h,_⟩=>by lia) ?_ ?_
   ·rintro j F' H3 hj ⟨s3,l3,r3⟩;refine⟨⟨rfl,rfl,rfl,rfl,trivial⟩,bC ⟨_,rfl,_,rfl,N0,fun t4 n4=>?_⟩⟩;have s4:=af (o:=.tup [.int (i:Int),.int (1+(j:Int))]) n4;refine Nx.mk hj ⟨s3.trans s4,by rw[JH];show _+1<=_;lia,fun v hv=>?_⟩;rcases Kc.mp hv with h|h
    ·exact(r3 v h).same s4
    ·rw[JL.mp h];exact⟨t4,_,_,rfl,ac⟩
   ·rintro F' H3 ⟨s3,l3,r3⟩;exact Nx.mk hi ⟨u2.trans s3,zo,r3⟩
  rintro S H1 ⟨s1,l1,r1⟩ ls Xq;rw[Xr]at l1;have s2:=af (o:=.lst S) Xq;have e2:az H1 ls (.lst S) ls=some (.lst S):=ac;have r2:∀v∈S,Rj (az H1 ls (.lst S)) v:=fun v hv=>(r1 v hv).same s2;generalize az H1 ls (.lst S)=H2 at*;have u2:=s1.trans s2;refine⟨_,rfl,ls,rfl,⟨_,NQ.of e2⟩,?_⟩;refine kE (K:=K) (a:=ls) (xs:=S) (fun i ys H'=>NJ H2 H'/\ys.length<=i*9) ⟨NJ.refl _,JN _⟩ (fun i ys H' hi⟨s3,hy⟩=>⟨NQ.of (s3 _ _ e2),zo⟩) ?_ ?_
  ·rintro i x ys H3 hx ⟨s3,l3⟩;have hi:=(JA.mp hx).1;have hxS:=r2 x (JP hx);refine⟨⟨rfl,trivial⟩,_,rfl,ls,rfl,⟨_,NQ.of (s3 _ _ e2)⟩,?_⟩;refine nz (K:=K) (a:=ls) (xs:=S) (fun j F' H'=>NJ H2 H'/\F'.length<=i*9+j) ⟨s3,zo⟩ (fun j F' H' hj⟨s4,h4⟩=>⟨NQ.of (s4 _ _ e2),zo⟩) ?_ ?_
   ·rintro j y F' H4 hy ⟨s4,l4⟩;have hj:=(JA.mp hy).1;obtain⟨p1,k1,v1,rfl,h1⟩:=hxS.same s4;obtain⟨p2,k2,v2,rfl,h2⟩:=(r2 y (JP hy)).same s4;refine⟨⟨rfl,rfl,trivial⟩,?_⟩;refine⟨_,rfl,p1,_,_,_,rfl,rfl,NL.of h1,bf,_,rfl,p2,_,_,_,rfl,rfl,NL.of h2,bf,_,_,rfl,rfl,_,rfl,?_⟩;refine eD (fun _=>?_) fun _=>Nx.mk hj ⟨s4,zo⟩;refine⟨_,rfl,_,rfl,N0,fun l5 n5=>?_⟩;have s5:=af (o:=.lst [.ref p1,.ref p2]) n5;have e5:az H4 l5 (.lst [.ref p1,.ref p2]) l5=some (.lst [.ref p1,.ref p2]):=ac;generalize az H4 l5 (.lst [.ref p1,.ref p2])=H5 at*;refine⟨false,l5,_,rfl,e5,fun d nd=>?_⟩;obtain⟨H6,pa,s6⟩:=IG nd (s5 _ _ h1) (s5 _ _ h2);exact⟨.dK [],H6,.inl rfl,pa,Nx.mk hj ⟨(s4.trans s5).trans s6,by rw[JH];show _+1<=_;lia⟩⟩
   ·rintro F' H4 ⟨s4,l4⟩;exact Nx.mk hi ⟨s4,zo⟩
  rintro Db H3 ⟨s3,l3⟩ ld nld;have s4:=af (o:=.lst Db) nld;have e4:az H3 ld (.lst Db) ld=some (.lst Db):=ac;generalize az H3 ld (.lst Db)=H4 at*;have u4:=s3.trans s4;intro d0 nd0;have s5:=af (o:=.dK []) nd0;have e5:az H4 d0 (.dK []) d0=some (.dK []):=ac;generalize az H4 d0 (.dK [])=H5 at*;refine⟨N0,fun l6 n6=>?_⟩;have s6:=af (o:=.lst [.ref d0]) n6;have e6:az H5 l6 (.lst [.ref d0]) l6=some (.lst [.ref d0]):=ac;generalize az H5 l6 (.lst [.ref d0])=H6 at*;have u6:=(u4.trans s5).trans s6;refine⟨_,rfl,ls,rfl,⟨_,NQ.of (u6 _ _ e2)⟩,?_⟩;refine db (K:=K) (a:=ls) (xs:=S) (fun i ys H'=>NJ H6 H'/\ys.length=i) ⟨NJ.refl _,rfl⟩ (fun i ys H' hi⟨s7,hy⟩=>⟨NQ.of ((u6.trans s7) _ _ e2),zo⟩) ?_ ?_
  ·rintro i x ys H7 hx ⟨s7,l7⟩;obtain⟨p1,k1,v1,rfl,h1⟩:=(r2 x (JP hx)).same (u6.trans s7);refine⟨trivial,bC ⟨_,rfl,N0,fun l8 n8=>?_⟩⟩;have s8:=af (o:=.lst [.ref p1]) n8;have e8:az H7 l8 (.lst [.ref p1]) l8=some (.lst [.ref p1]):=ac;generalize az H7 l8 (.lst [.ref p1])=H8 at*;refine⟨false,l8,_,rfl,e8,fun d nd=>?_⟩;obtain⟨H9,pa,s9⟩:=IF nd (s8 _ _ h1);exact⟨.dK [],H9,.inl rfl,pa,Nx.mk (JA.mp hx).1 ⟨(s7.trans s8).trans s9,by rw[JH,l7];rfl⟩⟩
  rintro Ds H7 ⟨s7,l7⟩ l8 n8;have s8:=af (o:=.lst Ds) n8;have e8:az H7 l8 (.lst Ds) l8=some (.lst Ds):=ac;generalize az H7 l8 (.lst Ds)=H8 at*;have u8:=s7.trans s8;refine⟨l6,l8,_,_,rfl,rfl,u8 _ _ e6,e8,by show 1+_<=_;lia,fun l9 n9=>?_⟩;have s9:=af (o:=.lst ([.ref d0]++Ds)) n9;have e9:az H8 l9 (.lst ([.ref d0]++Ds)) l9=some (.lst ([.ref d0]++Ds)):=ac;generalize az H8 l9 (.lst ([.ref d0]++Ds))=H9 at*;have u9:=u8.trans s9;refine⟨_,rfl,l9,ld,_,_,rfl,rfl,e9,((s5.trans s6).trans u9) _ _ e4,by rw[JH];show 1+_+_<=_;lia,fun la na=>?_⟩;have sa:=af (o:=.lst (([.ref d0]++Ds)++Db)) na;exact q la d0 (Ds++Db) _ (((u2.trans u6).trans u9).trans sa) ac ((s6.trans (u9.trans sa)) _ _ e5)
def QF:al [SQ,S0,SW,Td,TN,Tk,"j",Tg] [SQ,S0,SW,Td] (ah oa):=bH zk
def vJ(i:Nat):fM (i8 i)++[V.int (10+(i:Int))]=fM (i8 (i+1)):=by
 unfold fM i8;rw[Kz,JR,JR];rfl
def yU(i:Nat):(fM (i8 i)).length=i:=by unfold fM i8;rw[JC,JC,k_]
inductive Ji(H:Hp)(v ch gv:V)(ls lo:Ux)(n i:Nat)(σ:St)(H':Hp):Prop
 |mk(v6 v7:Option V):σ=[some v,some (.str Uv),some ch,some gv,some (.ref ls),some (.ref lo),v6,v7]->NJ H H'->H' ls=some (.lst (jq n))->H' lo=some (.lst (fM (i8 i)))->Ji H v ch gv ls lo n i σ H'
def yV(F:N1 K "operands_of" "operands_of" oa f fd)(B:Bl mg)(B3:BE mg)(T:Tc K C)(Z:Zq mg t1 t2)(FO:bB P w K mg base C "fields_of" 2 [SN,S0] (pE C)):NN P w K mg base br 3 f fd [SQ,S0,SW,Td] (oh C):=by
 have ZZ:=QF
 walk_at "o"
 ·obtain⟨v,ch,gv,d,n,sn,e,rfl,hT,hn,q⟩:=h;obtain⟨a0,dx,pp,pm,pn,pk,us,rfl,ho,_⟩:=id hT.tb;have sz:(100:Nat)<=sizeLine:=by decide
  obtain⟨f1,K7,M1,F1,B1⟩:=FO;refine⟨_,(ae (dh (i:=4) QF.nd rfl rfl (N':=["name",Tg]) (ix:=[none,none]) (sc0:=ah oa) (N:=[SQ,S0,SW,Td,TN,Tk,"j",Tg]) rfl zk (cK (ma (pv 0) T.cl M1 F1 hr B1 .nil dR (aa (pv 1) ab))) (fun _ _ _ _ _=>(c9 (K:=K) (n:=2) rfl rfl (aq (bM (i:=0) A1) (aq (bM (i:=1) A1) bi)))) (fun _ _ _ _ _=>bz) (fun _ _ _ _ _=>(pv 1))) (ae (bS (i:=5) QF.nd (bF ab)) (ae (cv f_ rfl (mv rfl B3.enumerate (aa (pv 4) ab)) (bT rfl (aq (bM (i:=6) QF.nd) (aq (bM (i:=7) QF.nd) bi))) (ag (aM (ak aY (pv 7) aj) (ag aU) (ag (aQ (fe J7 J1 J0 cg (pv 5) (aa (bx (ak aY (pv 7) aj) (aX cA (be (v:=.int 10) rfl Z.fr ⟨_,rfl⟩) (pv 6)) rL) ab))))))) (ag (am (aV bh (by rfl) B.tuple aZ (aa (pv 5) ab))))))),?_⟩;refine⟨_,rfl,a0,dx,_,rfl,ho,rfl,_,rfl,_,_,jF n sn e,rfl,hT.tb,hT.ok,hT.kn,fun tf fu Vb Vc=>?_⟩;have WA:fu.length=n:=by rw[Vc.length];unfold jF jp;simp
  refine⟨tf,rfl,⟨_,NL.of Vb⟩,?_⟩;refine iH (K:=K) (a:=tf) (xs:=fu) (fun i ys H'=>H'=H/\ys=jq i) ⟨rfl,rfl⟩ (fun i ys H' hi⟨eh,ey⟩=>⟨by rw[eh];exact NL.of Vb,by rw[ey,JM];lia⟩) ?_ ?_
  ·rintro i u ys H' hu ⟨rfl,rfl⟩;obtain⟨fx,Yu,pf,rfl,Xt⟩:=cM Vc hu;have Vd:=tT Yu;refine⟨pf,_,rfl,NL.of Xt,rfl,_,_,rfl,_,_,rfl,rfl,trivial,bC ⟨_,rfl,?_⟩⟩;refine Nx.mk (JA.mp hu).1 ⟨rfl,?_⟩;rw[Vd];exact List.replicate_succ'.symm
  rintro ys H' ⟨rfl,rfl⟩ ls Xq;rw[WA];have s1:=af (o:=.lst (jq n)) Xq;have e1:az H' ls (.lst (jq n)) ls=some (.lst (jq n)):=ac;generalize az H' ls (.lst (jq n))=H1 at*;refine⟨N0,fun lo WG=>?_⟩;have s2:=af (o:=.lst []) WG;have e2:az H1 lo (.lst []) lo=some (.lst []):=ac;have nl:ls≠lo:=aI e1 WG;have fo:H' lo=none:=none_of s1 WG;generalize az H1 lo (.lst [])=H2 at*;refine⟨_,rfl,ls,rfl,⟨_,NQ.of (s2 _ _ e1)⟩,?_⟩;refine wM (K:=K) (l:=ls) (xs:=jq n) (fun i σ H3=>Ji H' (.ref a0) ch gv ls lo n i σ H3) ⟨none,none,rfl,s1.trans s2,s2 _ _ e1,e2⟩ (fun i σ H3 _⟨_,_,_,_,k,_⟩=>NQ.of k) ?_ ?_
  ·rintro i x σ H3 T1 hx nT ⟨v6,v7,rfl,s3,k3,o3⟩;have hi:i<n:=by have:=(JA.mp hx).1;rwa [JM]at this
   have hxr:x=.str Tn:=(List.mem_replicate.mp (JP hx)).2;subst hxr;have sT:=af (o:=.tup [.int i,.str Tn]) nT;have eT:az H3 T1 (.tup [.int i,.str Tn]) T1=some (.tup [.int i,.str Tn]):=ac;generalize az H3 T1 (.tup [.int i,.str Tn])=H4 at*;refine⟨T1,_,rfl,NL.of eT,rfl,_,_,rfl,_,_,rfl,rfl,?_⟩;refine⟨_,rfl,rfl,_,rfl,aN zk ?_⟩;refine⟨_,rfl,.inl ⟨rfl,_,NQ.of (sT _ _ o3)⟩,_,rfl,rfl,_,rfl,bj zk ?_⟩;refine⟨_,rfl,_,_,rfl,rfl,lo,_,_,rfl,rfl,sT _ _ o3,by rw[yU];lia,?_⟩;rw[vJ];exact⟨_,_,rfl,bq fo (s3.trans sT),by rw[ao nl];exact sT _ _ k3,ac⟩
  ·rintro σ H3 ⟨v6,v7,rfl,s3,k3,o3⟩;rw[JM]at o3;refine⟨_,rfl,lo,_,rfl,.inl ⟨NQ.of o3,fun t nt=>?_⟩⟩;exact q t _ (s3.trans (af nt)) ac
def Rx:al [SQ,"noughts"] [SQ] (ah iq):=bH zk
def II:([Ui,"noughts"]:UD).Nodup:=by decide +kernel
def rZ(F:N1 K "cells_tried" "cells_tried" iq f fd)(B:Bl mg)(T:Tc K C):NN P w K mg base br 1 f fd [SQ] (je C):=by
 have ZZ:=Rx
 walk_at "o"
 ·obtain⟨v,d,n,sn,e,rfl,hT,q⟩:=h;obtain⟨a0,dx,pp,pm,pn,pk,us,rfl,ho,_⟩:=id hT.tb;have sz:(100:Nat)<=sizeLine:=by decide
  refine⟨_,(ae (iA (i:=1) Rx.nd rfl (Or.inr rfl) (aX mo (bF (aa ai ab)) (aK (pv 0) rfl))) (ag (am (aX ei (bF (aa (pv 1) ab)) (cI (N':=[Ui,"noughts"]) (ix:=[none,some 1]) (sc0:=ah iq) (N:=[SQ,"noughts"]) rfl zk (cF rfl B.range (aa (aK (pv 0) rfl) ab)) (fun _ _ _ _ _=>(bM (i:=0) II)) (fun _ _ _ _ _=>bz) (fun _ _ _ _ _=>(aX ei (aX ei (cB (pU (K:=K) rfl) (pv 1) dN (cy (pv 0))) (bF (aa ai ab))) (cB (pU (K:=K) rfl) (pv 1) (cy (aX cA (pv 0) ai)) dN)))))))),?_⟩;refine⟨N0,fun l0 n0=>?_⟩;have s0:=af (o:=.lst [.int 0]) n0;have e0:az H l0 (.lst [.int 0]) l0=some (.lst [.int 0]):=ac;generalize az H l0 (.lst [.int 0])=H0 at*;refine⟨_,rfl,a0,C,dx,_,_,rfl,s0 _ _ ho,T.cl,T.na S1 zk,rfl,Aw (n:=7) rfl zd e0 fun lc nc=>?_⟩;have s1:=af (o:=.lst (z0 7)) nc;have e1:az H0 lc (.lst (z0 7)) lc=some (.lst (z0 7)):=ac;generalize az H0 lc (.lst (z0 7))=H1 at*;have u1:=s0.trans s1;refine⟨_,rfl,N0,fun l2 n2=>?_⟩;have s2:=af (o:=.lst [.ref lc]) n2;have e2:az H1 l2 (.lst [.ref lc]) l2=some (.lst [.ref lc]):=ac;generalize az H1 l2 (.lst [.ref lc])=H2 at*;have u2:=u1.trans s2;have ec:=s2 _ _ e1;refine⟨_,rfl,a0,C,dx,_,_,rfl,u2 _ _ ho,T.cl,T.na S1 zk,rfl,_,rfl,by show -(2^62:Int)<=((7:Nat):Int);decide,by show((7:Nat):Int)<2^62;decide,?_⟩;refine di (lo:=0) (n:=7) (fun i ys H'=>NJ H2 H'/\ys.length=i) ⟨NJ.refl _,rfl⟩ (fun i ys H' hi⟨_,e⟩=>by lia) ?_ ?_
  ·rintro i ys H3 hi ⟨s3,l3⟩;refine⟨⟨rfl,trivial⟩,bC ?_⟩;refine⟨_,rfl,_,rfl,_,rfl,lc,_,rfl,NQ.of (s3 _ _ ec),fun p4 n4=>?_⟩;have s4:=af (o:=.lst (dD (z0 7) none (some (0+(i:Int))))) n4;have e4:az H3 p4 (.lst (dD (z0 7) none (some (0+(i:Int))))) p4=some (.lst (dD (z0 7) none (some (0+(i:Int))))):=ac;have c4:(dD (z0 7) none (some (0+(i:Int)))).length<=7:=dQ _ _ _;generalize az H3 p4 (.lst (dD (z0 7) none (some (0+(i:Int)))))=H4 at*;refine⟨N0,fun p5 n5=>?_⟩;have s5:=af (o:=.lst [.int 1]) n5;have e5:az H4 p5 (.lst [.int 1]) p5=some (.lst [.int 1]):=ac;generalize az H4 p5 (.lst [.int 1])=H5 at*;refine⟨p4,p5,_,_,rfl,rfl,s5 _ _ e4,e5,by show _+1<=_;lia,fun p6 n6=>?_⟩;have s6:=af (o:=.lst (dD (z0 7) none (some (0+(i:Int)))++[.int 1])) n6;have e6:az H5 p6 (.lst (dD (z0 7) none (some (0+(i:Int)))++[.int 1])) p6=some (.lst (dD (z0 7) none (some (0+(i:Int)))++[.int 1])):=ac;generalize az H5 p6 (.lst (dD (z0 7) none (some (0+(i:Int)))++[.int 1]))=H6 at*;have s36:=(s4.trans s5).trans s6;refine⟨_,rfl,_,rfl,_,_,rfl,rfl,_,rfl,lc,_,rfl,NQ.of ((s3.trans s36) _ _ ec),fun p7 n7=>?_⟩;have s7:=af (o:=.lst (dD (z0 7) (some (0+(i:Int)+1)) none)) n7;have e7:az H6 p7 (.lst (dD (z0 7) (some (0+(i:Int)+1)) none)) p7=some (.lst (dD (z0 7) (some (0+(i:Int)+1)) none)):=ac;have c7:(dD (z0 7) (some (0+(i:Int)+1)) none).length<=7:=dQ _ _ _;generalize az H6 p7 (.lst (dD (z0 7) (some (0+(i:Int)+1)) none))=H7 at*;refine⟨p6,p7,_,_,rfl,rfl,s7 _ _ e6,e7,by rw[JH];show _+1+_<=_;lia,fun p8 n8=>?_⟩;exact Nx.mk hi ⟨((s3.trans s36).trans s7).trans (af n8),by rw[JH,l3];rfl⟩
  ·rintro ys H3 ⟨s3,l3⟩ l4 n4;have s4:=af (o:=.lst ys) n4;have e4:az H3 l4 (.lst ys) l4=some (.lst ys):=ac;generalize az H3 l4 (.lst ys)=H4 at*;have u4:=s3.trans s4;refine⟨l2,l4,_,_,rfl,rfl,u4 _ _ e2,e4,by show 1+_<=_;lia,fun l5 n5=>?_⟩;have s5:=af (o:=.lst ([.ref lc]++ys)) n5;exact q l5 lc ys _ ((u2.trans u4).trans s5) ac ((u4.trans s5) _ _ ec)
end
abbrev dz:Stmt:=top 88
def ET:Option Str->PyData
 |none=>.none
 |some z=>.str z
def Gz(s:Nat):List PyData:=if s=1 then [.int 1,.int 0]else [.int 0,.int 0]
def GA(d s:Nat)(e:Ee):PyData:=.tuple [.str (dq d e).2.2.1,ET (dq d e).2.2.2,.int ((dq d e).1:Int),.tuple (Gz s),.tuple [.int 0],.tuple (List.replicate 7 (.int 0)),.tuple ((dq d e).2.1.map fun(i:Nat)=>.int (i:Int))]
section
variable{H:Hp}{K:ZF}
def GD(s:Nat):N4 K H (vP s) (Gz s):=by
 unfold vP Gz;split
 ·exact .cons (.int _) (.cons (.int _) .nil)
 ·exact .cons (.int _) (.cons (.int _) .nil)
def yW:∀n,N4 K H (z0 n) (List.replicate n (.int 0))
 |0=>.nil
 |n+1=>.cons (.int _) (yW n)
def tU:∀l:UE,N4 K H (l.map fun(i:Nat)=>V.int (i:Int)) (l.map fun(i:Nat)=>.int (i:Int))
 |[]=>.nil
 |_::l=>.cons (.int _) (tU l)
def GE:∀x:Option Str,Dt K H (Iy x) (ET x)
 |none=>.non
 |some z=>.str z
variable{e:Ee}{d s:Nat}
def jK{v:V}(h:DU H v (.int ((dq d e).1:Int)) (vP s) (z0 1) (z0 7) ((dq d e).2.1.map fun(i:Nat)=>V.int (i:Int)) (.str (dq d e).2.2.1) (Iy (dq d e).2.2.2)):Dt K H v (GA d s e):=by
 obtain⟨t,tp,tm,tc,tl,rfl,ht,hp,hm,hc,hl⟩:=h;exact .tup (NL.of ht) (.cons (.str _) (.cons (GE _) (.cons (.int _) (.cons (.tup (NL.of hp) (GD s)) (.cons (.tup (NL.of hm) (yW 1)) (.cons (.tup (NL.of hc) (yW 7)) (.cons (.tup (NL.of hl) (tU _)) .nil)))))))
def kP(d:Nat):∀e:Ee,dq (d+1) e=dq 1 e
 |.w0 _=>rfl
 |.fault _=>rfl
 |.go _ _=>rfl
def BS:∀n:Fin 4,∀e∈cQ n.1,∀z:Fin 2,(GY (dq z.1 e).2.2.1&&i7 1 (ET (dq z.1 e).2.2.2))=true:=by decide +kernel
variable{n:Nat}
def lS(h:Os n e):i7 2 (GA d s e)=true:=by
 have hk:(GY (dq d e).2.2.1&&i7 1 (ET (dq d e).2.2.2))=true:=by
  cases d with
  |zero=>exact BS ⟨n,by have:=h.1;lia⟩ e h.2 0
  |succ d=>rw[kP];exact BS ⟨n,by have:=h.1;lia⟩ e h.2 1
 rw[Kb]at hk;have hi:∀l:UE,((l.map fun(i:Nat)=>PyData.int (i:Int)).all (i7 0))=true:=fun l=>by
  rw[Ki];intro x hx;obtain⟨i,_,rfl⟩:=Ks.mp hx;rfl
 have hp:(Gz s).all (i7 0)=true:=by unfold Gz;split<;>rfl
 have hs:i7 1 (.str (dq d e).2.2.1)=true:=hk.1;have h1:∀l:List PyData,i7 1 (.tuple l)=l.all (i7 0):=fun _=>rfl;show(List.all _ (i7 1))=true;simp only[RU,List.all_nil,hs,hk.2,h1,hi,hp,Bool.and_true,Bool.true_and];rfl
def yX:∀n:Fin 4,∀z:Fin 2,∀e∈cQ n.1,∀e2∈cQ n.1,dq z.1 e=dq z.1 e2->PyData.eqv (kW (oE z.1 e)) (kW (oE z.1 e2))=true:=by decide +kernel
def Ea:∀{x y:Option Str},ET x=ET y->x=y
 |none,none,_=>rfl
 |some _,some _,h=>by rw[PyData.str.inj h]
 |none,some _,h=>by cases h
 |some _,none,h=>by cases h
def pV:∀{x y:UE},(x.map fun(i:Nat)=>PyData.int (i:Int))=y.map (fun(i:Nat)=>PyData.int (i:Int))->x=y
 |[],[],_=>rfl
 |_::_,[],h=>by cases h
 |[],_::_,h=>by cases h
 |a::x,b::y,h=>by
  rw[J9,J9]at h;have h1:=List.cons.inj h;have h2:=PyData.int.inj h1.1;rw[show a=b by lia,pV h1.2]
def BU{e e2:Ee}(h:Os n e)(h2:Os n e2)(ne:PyData.eqv (kW (oE d e)) (kW (oE d e2))=false):PyData.eqv (GA d s e) (GA d s e2)=false:=by
 refine KB.mpr fun q=>?_;have he:=PQ _ _ (dZ _ _ (lS (s:=s) h)).1 (dZ _ _ (lS (s:=s) h2)).1 q;unfold GA at he;have hl:=PyData.tuple.inj he;simp only[List.cons.injEq]at hl;obtain⟨g1,g2,g3,_,_,_,g7,_⟩:=hl;have hr:dq d e=dq d e2:=by
  refine Prod.ext ?_ (Prod.ext ?_ (Prod.ext ?_ ?_))
  ·have:=PyData.int.inj g3;lia
  ·exact pV (PyData.tuple.inj g7)
  ·exact PyData.str.inj g1
  ·exact Ea g2
 have hn:n<4:=by have:=h.1;lia
 cases d with
 |zero=>exact absurd ((yX ⟨n,hn⟩ 0 e h.2 e2 h2.2 hr).symm.trans ne) zd
 |succ d=>exact absurd ((yX ⟨n,hn⟩ 1 e h.2 e2 h2.2 ((kP d e).symm.trans (hr.trans (kP d e2)))).symm.trans ne) zd
inductive Rk(Cs:Ux)(H:Hp)(r:V)(x:Ux)(n:Nat):Prop
 |mk(dx pp m c l:Ux):QR H r n->Ow Cs H x dx pp m c l (.int 0) (z0 2) (z0 1) (z0 7) (z0 0) (.str "on") .non->Rk Cs H r x n
def Rk.same{Cs:Ux}{H H':Hp}{r:V}{x:Ux}(s:NJ H H')(h:Rk Cs H r x n):Rk Cs H' r x n:=by obtain⟨dx,p,m,c,l,a,b⟩:=h;exact ⟨dx,p,m,c,l,a.same s,b.same s⟩
inductive Eb(C Cs:Ux)(vs:UG)(H:Hp)(Q:VK)(Z3:XK):Prop
 |mk(v v2 ch:V)(a:Ux)(d n s:Nat)(e e2:Ee):vs=[v,v2,.str Uv,ch,.ref a]->Tv C H v d n s e->Tv C H v2 d n s e2->Os n e->Os n e2->PyData.eqv (kW (oE d e)) (kW (oE d e2))=false->H a=some (.tup [])->(∀p r x H',NJ H H'->H' p=some (.tup [r,.ref x])->Rk Cs H' r x n->Q (.ref p) H')->Eb C Cs vs H Q Z3
def EU(i:Nat):List (List dm×V):=(P4.take i).map fun x=>([.inr x.1,.inl (x.2.1:Int)],.int 0)
def Ec:∀i:Fin 3,er (EU i.1) [.inr (P4.getD i.1 ("",0,0)).1,.inl ((P4.getD i.1 ("",0,0)).2.1:Int)] (.int 0)=EU (i.1+1):=by decide +kernel
def Ef:∀i:Fin 3,eU (EU 3) [.inr (P4.getD i.1 ("",0,0)).1,.inl ((P4.getD i.1 ("",0,0)).2.1:Int)]=some (.int 0):=by decide +kernel
section
variable{P:Uz}{w:UA}{K:ZF}{mg:Str->Option Uw}{base:Heap}{C Cs:Ux}
def Pj:al [Th,S4,S0,SW,SX,Um,"picks",Td,Tn,SZ,S5,S1,Te] [Th,S4,S0,SW,SX] (ah dz):=bH zk
def jL:([Ui,Tg,"number",Ti,"picks"]:UD).Nodup:=by decide +kernel
def GF:(["number",Td]:UD).Nodup:=by decide +kernel
def BV(i:Nat)(h:i<3)(x:Str×Nat×Nat)(hx:P4[i]?=some x):P4.getD i ("",0,0)=x:=by rw[List.getD_eq_getElem?_getD,hx];rfl
def vK(F:N1 K "parted_by" "parted_by" dz f fd)(B:Bl mg)(B3:BE mg)(T:Tc K C)(S:Sc K Cs)(FT:Fn P w K mg base "free_things" 3 [SQ,S0,SX] (rY C))(PK:Fn P w K mg base "picks_of" 1 [Um] og)(OO:Fn P w K mg base "operands_of" 3 [SQ,S0,SW,Td] (oh C))(CT:Fn P w K mg base "cells_tried" 1 [SQ] (je C))
  (FO:O8 K "state_of" "state_of" dk (DA tk) fo fdo) (mgO:mg "state_of"=some (.ref fo)) (SO:NN P w K mg base br 5 fo fdo Dz (yC C Cs)) (RD:Fn P w K mg base "row_done" 9 [SQ,Te,Tn] (A0 C Cs)) (TO:bB P w K mg base Cs TV 1 [SN] (kJ Cs)):NN P w K mg base br 10 f fd [Th,S4,S0,SW,SX] (Eb C Cs):=by
 have ZZ:=Pj
 walk_at "o"
 ·obtain⟨v,v2,ch,a,d,n,sn,e,e2,rfl,hT,YB,hk,Zl,La,ha,q⟩:=h;have hu:=lD hr;have sz:(100:Nat)<=sizeLine:=by decide
  have X5:2<=sizeLine:=by decide
  obtain⟨a0,dx,pp,pm,pn,pk,us,rfl,ho,T',UK,_⟩:=id hT.tb;have T':H pp=some (.tup [.str "a",.str "b"]):=T';have UK:H pm=some (.tup [.str "m"]):=UK;obtain⟨f1,K7,M1,F1,B1⟩:=TO;refine⟨_,(ae (bS (i:=5) Pj.nd (ap FT hr.m rfl (aa (pv 0) (aa (pv 2) (aa (pv 4) ab))))) (ag (cv f_ rfl (bV (ap PK hr.m rfl (aa (pv 5) ab))) (ju (i:=6) Pj.nd rfl (Or.inr rfl)) (ae (iA (i:=7) Pj.nd rfl (Or.inr rfl) (F8 (N':=[Ui,Tg,"number",Ti,"picks"]) (ix:=[none,none,none,none,some 6]) (sc0:=ah dz) (N:=[Th,S4,S0,SW,SX,Um,"picks",Td,Tn,SZ,S5,S1,Te]) (Nat.lt_of_succ_lt hu) rfl zk (mv rfl B3.enumerate (aa (pv 5) ab)) (fun _ _ _ _ _=>(c9 (K:=K) (n:=2) rfl rfl (aq (bM (i:=0) jL) (aq (c9 (K:=K) (n:=3) rfl rfl (aq (bM (i:=1) jL) (aq (bM (i:=2) jL) (aq (bM (i:=3) jL) bi)))) bi)))) (fun _ _ _ _ _=>(av (aa (pv 1) (aa (pv 2) ab)))) (fun _ _ _ _ _=>(ax (pq (K:=K) rfl) (pv 3) (wK hu (pv 4) (pv 0) ai ⟨rfl,rfl,rfl,rfl⟩))))) (ae (bS (i:=8) Pj.nd (av (aa (pv 2) (aa (ap OO hr.m rfl (aa (pv 0) (aa (pv 2) (aa (pv 3) (aa (pv 7) ab))))) ab)))) (ae (dh (i:=9) Pj.nd rfl rfl (N':=["number",Td]) (ix:=[none,some 7]) (sc0:=ah dz) (N:=[Th,S4,S0,SW,SX,Um,"picks",Td,Tn,SZ,S5,S1,Te]) rfl zk (cF rfl B.range (aa (au aH (by rfl) B.len JI (aa (aK (pv 0) rfl) ab)) ab)) (fun _ _ _ _ _=>(bM (i:=0) GF)) (fun _ _ _ _ _=>bz) (fun _ _ _ _ _=>(g6 hu (pv 1) (av (aa aj (aa (pv 0) ab)))))) (ae (dh (i:=10) Pj.nd rfl rfl (N':=["number",Td]) (ix:=[none,some 7]) (sc0:=ah dz) (N:=[Th,S4,S0,SW,SX,Um,"picks",Td,Tn,SZ,S5,S1,Te]) rfl zk (cF rfl B.range (aa (au aH (by rfl) B.len JI (aa (aK (pv 0) rfl) ab)) ab)) (fun _ _ _ _ _=>(bM (i:=0) GF)) (fun _ _ _ _ _=>bz) (fun _ _ _ _ _=>(g6 hu (pv 1) (av (aa aj (aa (pv 0) ab)))))) (ag (cv f_ rfl (bV (ap CT hr.m rfl (aa (pv 0) ab))) (bM (i:=11) Pj.nd) (ae (bS (i:=12) Pj.nd (wm SO hr.m rfl mgO FO.kp (Gn FO) dR (aa (pv 0) ab) (md (pv 9) (md (pv 10) (md (pv 11) Cm))))) (ag (aM (ak (QE hr) (aW (ap RD hr rfl (aa (pv 0) (aa (pv 12) (aa (pv 8) ab))))) (aW (ap RD hr rfl (aa (pv 1) (aa (pv 12) (aa (pv 8) ab)))))) (ag (am (av (aa (pv 8) (aa (pv 12) ab))))) aw)))))))))))),?_⟩;refine⟨_,rfl,_,rfl,_,rfl,_,a,d,n,sn,e,rfl,hT,hk.1,ha,fun l fs H1 s1 hl Wz=>?_⟩;refine⟨_,rfl,l,fs,rfl,hl,Wz,fun r d0 A' H2 s2 K6 Xb=>⟨r,rfl,⟨_,NQ.of K6⟩,?_⟩⟩;have u2:=s1.trans s2;have V':=s2 _ _ hl;have hfs2:=bW (fun _ _ h=>P2.same s2 h) Wz;have l3:fs.length=3:=Wz.length;refine fk (K:=K) (a:=r) (xs:=.ref d0::A') (fun i σ H'=>i=0/\H'=H2/\σ=[some (.ref a0),some v2,some (.str Uv),some ch,some (.ref a),some (.ref l),none,none,none,none,none,none,none]) ⟨rfl,rfl,rfl⟩ (fun i σ H' _⟨_,e,_⟩=>by rw[e];exact NQ.of K6) ?_ (fun σ H' z=>by cases z.1);rintro i x σ H' hx ⟨rfl,rfl,rfl⟩;cases hx;refine⟨_,rfl,l,rfl,⟨_,NQ.of V'⟩,?_⟩;refine Az (K:=K) (l:=l) (xs:=fs) (fun D i H3=>NJ H' H3/\H' D=none/\H3 D=some (.dT (EU i))) (fun D nD=>⟨af nD,nD,ac⟩) (fun D i H3 _⟨s,_⟩=>NQ.of (s _ _ V')) ?_ ?_
  ·rintro D i x H3 T1 hx nT ⟨s3,nD,hD⟩;have hi:i<3:=by rw[<-l3];exact(JA.mp hx).1
   obtain⟨xd,Zf,fx⟩:=cM hfs2 hx;have sT:=af (o:=.tup [.int i,x]) nT;have eT:az H3 T1 (.tup [.int i,x]) T1=some (.tup [.int i,x]):=ac;generalize az H3 T1 (.tup [.int i,x])=H4 at*;have s4:=s3.trans sT;obtain⟨pt,pw,rfl,hpt,Ym,hm⟩:=fx.same s4;refine⟨T1,_,rfl,NL.of eT,rfl,_,_,rfl,_,_,rfl,pt,_,rfl,NL.of hpt,rfl,_,_,rfl,_,_,rfl,_,_,rfl,rfl,rfl,⟨rfl,trivial⟩,?_⟩;refine⟨_,rfl,_,rfl,X5,fun kp nk=>?_⟩;have s5:=af (o:=.tup [.str xd.1,.int (xd.2.1:Int)]) nk;have e5:az H4 kp (.tup [.str xd.1,.int (xd.2.1:Int)]) kp=some (.tup [.str xd.1,.int (xd.2.1:Int)]):=ac;generalize az H4 kp (.tup [.str xd.1,.int (xd.2.1:Int)])=H5 at*;have u5:=s4.trans s5;have Vt:=(sT.trans s5) _ _ hD;refine⟨_,rfl,_,rfl,d0,rfl,.inl ⟨_,.inl (u5 _ _ Xb)⟩,_,rfl,none,N9.k (k:=.inl (i:Int)) (u5 _ _ Xb),?_⟩;refine⟨pw,_,_,_,rfl,rfl,NQ.of (s5 _ _ Ym),bD (j:=0) (v:=.int 0) (by unfold eK;rw[J5,N_ zo];rfl),?_⟩;refine⟨_,Oh.t (k:=[.inr xd.1,.inl (xd.2.1:Int)]) Vt e5 (by unfold EU;rw[JC,JU];lia),DNx.mk zo ⟨bq nD u5,nD,?_⟩⟩;have:=Ec ⟨i,hi⟩;rw[BV i hi xd Zf]at this;rw[this];exact ac
  rintro D H3 ⟨s3,nD,hD⟩;rw[l3]at hD;have hkv:∀{H9:Hp}{kp:Ux}(i:Nat)(hi:i<3)(x:Str×Nat×Nat),P4[i]?=some x->H9 D=some (.dT (EU 3))->H9 kp=some (.tup [.str x.1,.int (x.2.1:Int)])->N9 H9 D (.ref kp) (some (.int 0)):=fun i hi x hx h1 h2=>by
   have:=N9.t (k:=[.inr x.1,.inl (x.2.1:Int)]) h1 h2;have hv:=Ef ⟨i,hi⟩;rw[BV i hi x hx]at hv;rw[hv]at this;exact this
  have u3:=u2.trans s3;refine⟨_,rfl,_,rfl,_,rfl,_,rfl,_,rfl,.ref a0,ch,.ref D,d,n,sn,e,rfl,hT.same u3,hk.1,fun to H4 s4 hto=>⟨X5,fun rp nrp=>?_⟩⟩;have s5:=af (o:=.tup [.str Uv,.ref to]) nrp;have e5:az H4 rp (.tup [.str Uv,.ref to]) rp=some (.tup [.str Uv,.ref to]):=ac;have hto5:=s5 _ _ hto;generalize az H4 rp (.tup [.str Uv,.ref to])=H5 at*;have u5:=u3.trans (s4.trans s5);have Vt:=(s4.trans s5) _ _ hD;have Vd:QR H5 (.ref rp) n:=⟨rp,to,rfl,e5,hto5⟩;refine⟨_,rfl,a0,C,dx,_,_,rfl,u5 _ _ ho,T.cl,T.na SZ zk,rfl,pp,_,rfl,.inr (NL.of (u5 _ _ T')),_,rfl,by show -(2^62:Int)<=((2:Nat):Int);decide,by show((2:Nat):Int)<2^62;decide,?_⟩;refine di (lo:=0) (n:=2) (fun i ys H6=>NJ H5 H6/\ys=z0 i) ⟨NJ.refl _,rfl⟩ (fun i ys H6 hi⟨_,e⟩=>by rw[e,JM];lia) ?_ ?_
  ·rintro i ys H6 hi ⟨s6,rfl⟩;rw[Pi];refine⟨⟨rfl,trivial⟩,bC ⟨_,rfl,_,rfl,X5,fun kp nk=>?_⟩⟩;have s7:=af (o:=.tup [.str SU,.int (i:Int)]) nk;refine⟨D,_,rfl,hkv i zo (SU,i,4) (by match i,hi with|0,_=>rfl|1,_=>rfl) ((s6.trans s7) _ _ Vt) ac,?_⟩;exact Nx.mk hi ⟨s6.trans s7,List.replicate_succ'.symm⟩
  rintro ys H6 ⟨s6,rfl⟩ lp nlp;have s7:=af (o:=.lst (z0 2)) nlp;have e7:az H6 lp (.lst (z0 2)) lp=some (.lst (z0 2)):=ac;generalize az H6 lp (.lst (z0 2))=H7 at*;have v7:=s6.trans s7;have u7:=u5.trans v7;refine⟨_,rfl,a0,C,dx,_,_,rfl,u7 _ _ ho,T.cl,T.na S5 zk,rfl,pm,_,rfl,.inr (NL.of (u7 _ _ UK)),_,rfl,by show -(2^62:Int)<=((1:Nat):Int);decide,by show((1:Nat):Int)<2^62;decide,?_⟩;refine di (lo:=0) (n:=1) (fun i ys H8=>NJ H7 H8/\ys=z0 i) ⟨NJ.refl _,rfl⟩ (fun i ys H6 hi⟨_,e⟩=>by rw[e,JM];lia) ?_ ?_
  ·rintro i ys H8 hi ⟨s8,rfl⟩;have i0:i=0:=by lia
   subst i0;refine⟨⟨rfl,trivial⟩,bC ⟨_,rfl,_,rfl,X5,fun kp nk=>?_⟩⟩;have s9:=af (o:=.tup [.str S2,.int (0+((0:Nat):Int))]) nk;refine⟨D,_,rfl,hkv 2 zd (S2,0,2) rfl ((v7.trans (s8.trans s9)) _ _ Vt) ac,?_⟩;exact Nx.mk hi ⟨s8.trans s9,rfl⟩
  rintro ys H8 ⟨s8,rfl⟩ lm nlm;have s9:=af (o:=.lst (z0 1)) nlm;have e9:az H8 lm (.lst (z0 1)) lm=some (.lst (z0 1)):=ac;generalize az H8 lm (.lst (z0 1))=H9 at*;have v9:=s8.trans s9;have u9:=u7.trans v9;refine⟨_,rfl,.ref a0,d,n,sn,e,rfl,hT.same u9,fun lc c Y4 Ha sa V4 hc=>⟨lc,rfl,⟨_,NQ.of V4⟩,?_⟩⟩;have ua:=u9.trans sa;refine fk (K:=K) (a:=lc) (xs:=.ref c::Y4) (fun i σ Hb=>i=0/\Hb=Ha/\σ=[some (.ref a0),some v2,some (.str Uv),some ch,some (.ref a),some (.ref l),some (.ref d0),some (.ref D),some (.ref rp),some (.ref lp),some (.ref lm),none,none]) ⟨rfl,rfl,rfl⟩ (fun i σ H' _⟨_,e,_⟩=>by rw[e];exact NQ.of V4) ?_ (fun σ H' z=>by cases z.1);rintro i x σ Hb hx ⟨rfl,rfl,rfl⟩;cases hx;refine⟨_,rfl,_,rfl,_,rfl,_,rfl,.ref a0,d,n,sn,e,lp,lm,c,rfl,hT.same ua,(v9.trans sa) _ _ e7,sa _ _ e9,hc,fun Hc x dy p m c' l' sc hO=>?_⟩;have uc:=ua.trans sc;have wc:=(v7.trans v9).trans (sa.trans sc);refine⟨_,rfl,_,rfl,_,rfl,x,dy,p,m,c',l',.ref a0,.ref rp,d,n,sn,e,rfl,hT.same uc,hk,Vd.same wc,hO,fun x1 U_ p1 m1 c1 l1 Hd sd hR=>?_⟩;refine⟨x1,U_,Cs,f1,_,K7,1,[SN],_,rfl,hR.ex,rfl,S.cl,M1,F1,hr.m,B1,x1,U_,p1,m1,c1,l1,_,_,_,_,_,_,_,rfl,hR,fun t1 He se XT=>?_⟩;have Y6:=sd.trans se;refine⟨_,rfl,_,rfl,_,rfl,x,dy,p,m,c',l',v2,.ref rp,d,n,sn,e2,rfl,YB.same (uc.trans Y6),Zl,Vd.same (wc.trans Y6),hO.same Y6,fun x2 U9 p2 m2 c2 l2 Hf sf YC=>?_⟩;refine⟨x2,U9,Cs,f1,_,K7,1,[SN],_,rfl,YC.ex,rfl,S.cl,M1,F1,hr.m,B1,x2,U9,p2,m2,c2,l2,_,_,_,_,_,_,_,rfl,YC,fun t2 Hg sg WK=>?_⟩;have ufg:=sf.trans sg;have j1:=dZ _ _ (lS (d:=d) (s:=sn) hk);have j2:=dZ _ _ (lS (d:=d) (s:=sn) Zl);refine⟨_,_,Dt.same ufg (jK XT),jK WK,j1.2.1,j2.2.1,J4 (L_ _ _) (by have:=j1.2.2;lia),?_⟩;refine⟨_,rfl,bj (by rw[BU hk Zl La];rfl) ?_⟩;refine⟨_,rfl,_,rfl,X5,fun pr Z8=>?_⟩;have sh:=af (o:=.tup [.ref rp,.ref x]) Z8;have ZK:=Y6.trans (ufg.trans sh);exact q pr (.ref rp) x _ (uc.trans ZK) ac ⟨dy,p,m,c',l',Vd.same (wc.trans ZK),hO.same ZK⟩
end
end
abbrev oi:Stmt:=top 129
abbrev sj:Stmt:=top 124
abbrev kQ:Stmt:=top 166
def vL(d:Nat)(e e2:Ee):Bool:=PyData.eqv (kW (oE d e)) (kW (oE d e2))
def BW(e:Ee):tJ (kW e)=true:=by cases e<;>rfl
section
variable{e e2:Ee}{d s:Nat}
def Eg(h:vL d e e2=true):gQ d s e=gQ d s e2:=by
 have:=PQ _ _ (BW _) (BW _) h;unfold gQ;rw[this]
variable{n:Nat}
def Eh(h:Os n e):PyData.eqv (gQ d s e) (gQ d s e2)=vL d e e2:=by
 have hp:=(dZ _ _ (OI (d:=d) (s:=s) h).1).1;unfold gQ at hp⊢;have hr:i6 [.tuple [ym (c1 s 0) 0,ym (c1 s 1) 1],.tuple [DL s],DM s]=true:=(Kb _ _▸hp:_/\_).2;show(PyData.eqv _ _&&PyData.eqvAll _ _)=_;rw[OD _ hr,Bool.and_true];rfl
def GG(H H':Hp):Prop:=∀b o,H b=some o->(∀xs,o≠.lst xs)->H' b=some o
variable{H:Hp}
def yY{l:Ux}{xs ys:UG}(h:H l=some (.lst xs)):GG H (az H l (.lst ys)):=fun b o e n=>by rw[ao (by rintro rfl;rw[h]at e;exact n _ (JS e).symm)];exact e
mutual
variable{K:ZF}
def Dt.nl{H H':Hp}(s:GG H H'):∀{v:V}{d:PyData},tJ d=true->Dt K H v d->Dt K H' v d
 |_,_,_,.non=>.non
 |_,_,_,.bl b=>.bl b
 |_,_,_,.int i=>.int i
 |_,_,_,.str x=>.str x
 |_,_,h,.lst a b=>by cases h
 |_,_,h,.tup a b=>.tup (by rcases a with(e|⟨o,e⟩)|r;exact .inl (.inl (s _ _ e (fun _ z=>nomatch z)));exact .inl (.inr ⟨o,s _ _ e (fun _ z=>nomatch z)⟩);exact .inr r) (N4.nl s h b)
def N4.nl{H H':Hp}(s:GG H H'):∀{v:UG}{d:List PyData},i6 d=true->N4 K H v d->N4 K H' v d
 |_,_,_,.nil=>.nil
 |_,_,h,.cons a b=>.cons (Dt.nl s (by rw[i6,Kb]at h;exact h.1) a) (N4.nl s (by rw[i6,Kb]at h;exact h.2) b)
end
variable{K:ZF}
def Qy.nl{H H':Hp}{v:V}{x:PyData}(hx:tJ x=true)(s:GG H H')(h:Qy K H v n x):Qy K H' v n x:=by
 obtain⟨p,t,c,ef,a,b,d,f,g⟩:=h;exact⟨p,t,c,ef,a,s _ _ b (fun _ z=>nomatch z),s _ _ d (fun _ z=>nomatch z),s _ _ f (fun _ z=>nomatch z),Dt.nl s hx g⟩
inductive P5(K:ZF)(C Cs:Ux)(vs:UG)(H:Hp)(Q:VK)(Z3:XK):Prop
 |mk(v v2 ch:V)(a:Ux)(d n s:Nat)(e e2:Ee):vs=[v,v2,.str Uv,ch,.ref a]->Tv C H v d n s e->Tv C H v2 d n s e2->Os n e->Os n e2->H a=some (.tup [])->(vL d e e2=true->∀p ef H',NJ H H'->H' p=some (.tup [.str TD,ef])->Dt K H' ef (gQ d s e)->Q (.ref p) H')->(vL d e e2=false->∀p r x H',NJ H H'->H' p=some (.tup [.str "parted",r,.ref x])->Rk Cs H' r x n->Q (.ref p) H')->P5 K C Cs vs H Q Z3
inductive Pq(K:ZF)(C Cs:Ux)(vs:UG)(H:Hp)(Q:VK)(Z3:XK):Prop
 |mk(v v2:V)(d n s:Nat)(e e2:Ee):vs=[v,v2]->Tv C H v d n s e->Tv C H v2 d n s e2->Os n e->Os n e2->(vL d e e2=true->∀p l y H',NJ H H'->H' p=some (.tup [.str "alike",.ref l])->H' l=some (.lst [y])->Qy K H' y n (gQ d s e)->Q (.ref p) H')->(vL d e e2=false->∀p r x H',NJ H H'->H' p=some (.tup [.str "parted",r,.ref x])->Rk Cs H' r x n->Q (.ref p) H')->Pq K C Cs vs H Q Z3
inductive OS(C:Ux)(vs:UG)(H:Hp)(Q:VK)(Z3:XK):Prop
 |mk(v v2:V)(d n s:Nat)(e e2:Ee):vs=[v,v2,.bl (vL d e e2)]->Tv C H v d n s e->Tv C H v2 d n s e2->Os n e->Os n e2->(∀H',NJ H H'->Q (.bl true) H')->OS C vs H Q Z3
inductive Q3(K:ZF)(H:Hp)(d s:Nat)(e e2:Ee)(i:Nat)(es:UG):Prop
 |z:i=0->es=[]->Q3 K H d s e e2 i es
 |o (x:V):i=1->es=[x]->Dt K H x (gQ d s e)->Q3 K H d s e e2 i es
 |t (x y:V):i=2->es=[x,y]->Dt K H x (gQ d s e)->Dt K H y (gQ d s e2)->Q3 K H d s e e2 i es
def Q3.nl{H H':Hp}{i:Nat}{es:UG}(h1:tJ (gQ d s e)=true)(h2:tJ (gQ d s e2)=true)(k:GG H H')(h:Q3 K H d s e e2 i es):Q3 K H' d s e e2 i es:=by
 cases h with
 |z a b=>exact .z a b
 |o x a b c=>exact .o x a b (Dt.nl k h1 c)
 |t x y a b c f=>exact .t x y a b (Dt.nl k h1 c) (Dt.nl k h2 f)
inductive JCa(K:ZF)(H:Hp)(v v2 ch:V)(a lo:Ux)(d s:Nat)(e e2:Ee)(i:Nat)(σ:St)(H':Hp):Prop
 |mk(v6 v7:Option V)(es:UG):σ=[some v,some v2,some (.str Uv),some ch,some (.ref a),some (.ref lo),v6,v7,none,none]->NJ H H'->H' lo=some (.lst es)->Q3 K H' d s e e2 i es->JCa K H v v2 ch a lo d s e e2 i σ H'
inductive JAl(K:ZF)(H:Hp)(v v2:V)(lo:Ux)(n:Nat)(x:PyData)(i:Nat)(σ:St)(H':Hp):Prop
 |mk(v3 v4 v5:Option V)(es:UG):σ=[some v,some v2,some (.ref lo),v3,v4,v5]->NJ H H'->H' lo=some (.lst es)->(i=0/\es=[]\/i=1/\∃y,es=[y]/\Qy K H' y n x)->JAl K H v v2 lo n x i σ H'
section
variable{P:Uz}{w:UA}{K:ZF}{mg:Str->Option Uw}{base:Heap}{C Cs:Ux}
def Pa:al [Th,S4,S0,SW,SX,"effects",SQ,TL,Tn,Te] [Th,S4,S0,SW,SX] (ah oi):=bH zk
def QZ(F:N1 K "case_of" "case_of" oi f fd)(CO:Fn P w K mg base "come_to" 3 [SQ,S0,SW,SX] (Pc C))(EF:Fn P w K mg base "effect_of" 6 [SQ,SW,SX,TD] (tH K C))(PB:Fn P w K mg base "parted_by" 10 [Th,S4,S0,SW,SX] (Eb C Cs)):NN P w K mg base br 11 f fd [Th,S4,S0,SW,SX] (P5 K C Cs):=by
 have ZZ:=Pa
 walk_at "o"
 ·obtain⟨v,v2,ch,a,d,n,sn,e,e2,rfl,h1,h2,k1,k2,ha,q1,q2⟩:=h;refine⟨_,(ae (bS (i:=5) Pa.nd (bF ab)) (ae (cv f_ rfl (cK (av (aa (pv 0) (aa (pv 1) ab)))) (bM (i:=6) Pa.nd) (ae (bS (i:=7) Pa.nd (ap CO hr.m rfl (aa (pv 6) (aa (pv 2) (aa (pv 3) (aa (pv 4) ab)))))) (ae (aM (ak aY (ax ar (pv 7) ai) aj) (ag aU) aw) (ag (aQ (fe J7 J1 J0 cg (pv 5) (aa (ap EF hr.m rfl (aa (pv 6) (aa (pv 3) (aa (pv 4) (aa (pv 7) ab))))) ab))))))) (ae (aM (ak (Pd hr) (ax b9 (pv 5) ai) (ax b9 (pv 5) ai)) (ag (am (av (aa aj (aa (ax b9 (pv 5) ai) ab))))) aw) (ae (cu (ap PB hr rfl (aa (pv 0) (aa (pv 1) (aa (pv 2) (aa (pv 3) (aa (pv 4) ab)))))) (bT rfl (aq (bM (i:=8) Pa.nd) (aq (bM (i:=9) Pa.nd) bi)))) (ag (am (av (aa aj (aa (pv 8) (aa (pv 9) ab)))))))))),?_⟩;refine⟨N0,fun lo WG=>?_⟩;have s1:=af (o:=.lst []) WG;have e1:az H lo (.lst []) lo=some (.lst []):=ac;generalize az H lo (.lst [])=H1 at*;refine⟨_,rfl,_,rfl,N0,fun t nt=>⟨t,rfl,⟨_,NL.of ac⟩,?_⟩⟩;have st:=af (o:=.tup [v,v2]) nt;have et:az H1 t (.tup [v,v2]) t=some (.tup [v,v2]):=ac;have tlo:t≠lo:=(aI e1 nt).symm;generalize az H1 t (.tup [v,v2])=H2 at*;have u2:=s1.trans st;refine dJ (K:=K) (a:=t) (xs:=[v,v2]) (fun i σ H'=>JCa K H v v2 ch a lo d sn e e2 i σ H'/\H' t=some (.tup [v,v2])) ⟨⟨none,none,[],rfl,u2,st _ _ e1,.z rfl rfl⟩,et⟩ (fun i σ H' _⟨_,h⟩=>NL.of h) ?_ ?_
  ·rintro i x σ H3 hx ⟨⟨v6,v7,es,rfl,s3,el,he⟩,et3⟩;obtain⟨ed,hT,h6⟩:∃ed,Tv C H x d n sn ed/\∀ef H4,NJ H3 H4->Dt K H4 ef (gQ d sn ed)->Q3 K H4 d sn e e2 (i+1) (es++[ef]):=by
    match i,hx,he with
    |0,hx,he=>
     cases hx;cases he with
     |z _ VW=>subst VW;exact⟨e,h1,fun ef H4 _ h=>.o ef rfl rfl h⟩
     |o _ z=>cases z
     |t _ _ z=>cases z
    |1,hx,he=>
     cases hx;cases he with
     |z z=>cases z
     |o y _ VW hy=>subst VW;exact⟨e2,h2,fun ef H4 s4 h=>.t y ef rfl rfl (Dt.same s4 hy) h⟩
     |t _ _ z=>cases z
    |i+2,hx,_=>cases hx
   have l2:es.length<=2:=by
    cases he with
    |z _ VW=>subst VW;exact JN _
    |o _ _ VW=>subst VW;exact(by decide:1<=2)
    |t _ _ _ VW=>subst VW;exact JB 2
   refine⟨_,rfl,_,rfl,_,rfl,_,rfl,x,ch,.ref a,d,n,sn,ed,rfl,hT.same s3,fun b hb=>?_⟩;obtain⟨pb,q0,gs,ue,rfl,XU,_⟩:=id hb;refine⟨_,rfl,pb,_,_,_,rfl,rfl,NL.of XU,bf,rfl,_,rfl,aN zk ?_⟩;refine⟨_,rfl,.inl ⟨rfl,_,NQ.of el⟩,_,rfl,_,rfl,_,rfl,_,rfl,x,ch,.ref pb,a,lQ d n sn ed,sn,ed,rfl,(hT.same s3).tb,rfl,rfl,rfl,s3 _ _ ha,hb,fun ef H4 s4 WB=>?_⟩;refine⟨lo,_,_,rfl,rfl,s4 _ _ el,Nat.lt_of_le_of_lt l2 (by decide:2<sizeLine),?_⟩;have nl:=yY (ys:=es++[ef]) (s4 _ _ el);exact⟨⟨_,_,_,rfl,bq WG (s3.trans s4),ac,(h6 ef H4 s4 WB).nl (dZ _ _ (OI k1).1).1 (dZ _ _ (OI k2).1).1 nl⟩,by rw[ao tlo];exact s4 _ _ et3⟩
  ·rintro σ H3 ⟨⟨v6,v7,es,rfl,s3,el,he⟩,et3⟩;cases he with
   |z z=>cases z
   |o x z=>cases z
   |t x y _ VW hx hy=>
   subst VW;have j1:=dZ _ _ (OI (d:=d) (s:=sn) k1).1;have j2:=dZ _ _ (OI (d:=d) (s:=sn) k2).1;refine⟨_,rfl,lo,_,_,_,rfl,rfl,NQ.of el,bf,_,rfl,lo,_,_,_,rfl,rfl,NQ.of el,cn,_,_,hx,hy,j1.2.1,j2.2.1,J4 (L_ _ _) (by have:=j1.2.2;lia),?_⟩;rw[Eh k1];refine⟨_,rfl,?_⟩;cases hb:vL d e e2 with
   |true=>
    refine eQ ?_;refine⟨_,rfl,lo,_,_,_,rfl,rfl,NQ.of el,bf,N0,fun p np=>?_⟩;have sp:=af (o:=.tup [.str TD,x]) np;exact q1 hb p x _ (s3.trans sp) ac (Dt.same sp hx)
   |false=>
    refine bJ ?_;refine⟨_,rfl,_,rfl,_,rfl,_,rfl,_,rfl,v,v2,ch,a,d,n,sn,e,e2,rfl,h1.same s3,h2.same s3,k1,k2,hb,s3 _ _ ha,fun p r x' H4 s4 hp hP=>?_⟩;refine⟨p,_,rfl,NL.of hp,rfl,_,_,rfl,_,_,rfl,rfl,?_⟩;refine⟨_,rfl,_,rfl,N0,fun p5 n5=>?_⟩;have s5:=af (o:=.tup [.str "parted",r,.ref x']) n5;exact q2 hb p5 r x' _ ((s3.trans s4).trans s5) ac (hP.same s5)
def QG:al [Th,S4,"paper",S0,SW,"case"] [Th,S4] (ah sj):=bH zk
def QD(F:N1 K "alike" "alike" sj f fd)(NP:Fn P w K mg base "need_plain" 5 [Th,S4] (Oy C))(CS:Fn P w K mg base "choices_of" 4 [SQ] (gl C))(CA:Fn P w K mg base "case_of" 11 [Th,S4,S0,SW,SX] (P5 K C Cs)):NN P w K mg base br 12 f fd [Th,S4] (Pq K C Cs):=by
 have ZZ:=QG
 walk_at "o"
 ·obtain⟨v,v2,d,n,sn,e,e2,rfl,h1,h2,k1,k2,q1,q2⟩:=h;refine⟨_,(ae (aQ (ap NP hr.m rfl (aa (pv 0) (aa (pv 1) ab)))) (ae (bS (i:=2) QG.nd (bF ab)) (ae (cv f_ rfl (bV (ap CS hr.m rfl (aa (pv 0) ab))) (bT rfl (aq (bM (i:=3) QG.nd) (aq (bM (i:=4) QG.nd) bi))) (ae (bS (i:=5) QG.nd (ap CA hr rfl (aa (pv 0) (aa (pv 1) (aa (pv 3) (aa (pv 4) (aa (av ab) ab))))))) (ae (aM (ak aY (ax ar (pv 5) ai) aj) (ag (am (pv 5))) aw) (ag (aQ (fe J7 J1 J0 cg (pv 2) (aa (av (aa (pv 3) (aa (pv 4) (aa (pv 5) ab)))) ab))))))) (ag (am (av (aa aj (aa (pv 2) ab)))))))),?_⟩;refine⟨_,rfl,_,rfl,v,v2,d,n,sn,sn,e,e2,rfl,h1,h2,k1.1,fun H1 s1=>?_⟩;refine⟨N0,fun lo WG=>?_⟩;have s2:=af (o:=.lst []) WG;have X0:az H1 lo (.lst []) lo=some (.lst []):=ac;have flo:H lo=none:=none_of s1 WG;generalize az H1 lo (.lst [])=H2 at*;have u2:=s1.trans s2;refine⟨_,rfl,v,d,n,sn,e,rfl,h1.same u2,k1.1,fun lc x H3 s3 V4 hx=>⟨lc,rfl,⟨_,NQ.of V4⟩,?_⟩⟩;have lolc:lc≠lo:=fun z=>by
   have a:=s3 _ _ X0;rw[<-z,V4]at a;cases a
  have u3:=u2.trans s3;refine fk (K:=K) (a:=lc) (xs:=[x]) (fun i σ H'=>JAl K H v v2 lo n (gQ d sn e) i σ H'/\H' lc=some (.lst [x])/\(i=0->H'=H3)/\(i=1->vL d e e2=true)) ⟨⟨none,none,none,[],rfl,u3,s3 _ _ X0,.inl ⟨rfl,rfl⟩⟩,V4,fun _=>rfl,fun z=>nomatch z⟩ (fun i σ H' _⟨_,h,_⟩=>NQ.of h) ?_ ?_
  ·rintro i y σ H4 hy ⟨⟨v3,v4,v5,es,rfl,s4,el,he⟩,hlc4,hH,_⟩;cases i with
   |succ i=>cases hy
   |zero=>
   cases hy;cases hH rfl;rcases he with⟨_,rfl⟩|⟨z,_⟩
   ·obtain⟨p,t,rfl,hp,ht⟩:=hx;refine⟨p,_,rfl,NL.of hp,rfl,_,_,rfl,_,_,rfl,rfl,?_⟩;refine⟨_,rfl,_,rfl,_,rfl,_,rfl,N0,fun t5 n5=>?_⟩;have s5:=af (o:=.tup []) n5;have e5:az H3 t5 (.tup []) t5=some (.tup []):=ac;generalize az H3 t5 (.tup [])=H5 at*;have u5:=u3.trans s5;refine⟨v,v2,.ref t,t5,d,n,sn,e,e2,rfl,h1.same u5,h2.same u5,k1,k2,e5,fun hb p6 ef H6 s6 Wu WB=>?_,fun hb p6 r x' H6 s6 Wu hP=>?_⟩
    ·refine⟨_,rfl,p6,_,_,_,rfl,rfl,NL.of Wu,bf,rfl,_,rfl,aN zk ?_⟩;have s56:=s5.trans s6;refine⟨_,rfl,.inl ⟨rfl,_,NQ.of (s56 _ _ el)⟩,_,rfl,_,rfl,_,rfl,N0,fun p7 n7=>?_⟩;have s7:=af (o:=.tup [.str Uv,.ref t,.ref p6]) n7;have e7:az H6 p7 (.tup [.str Uv,.ref t,.ref p6]) p7=some (.tup [.str Uv,.ref t,.ref p6]):=ac;generalize az H6 p7 (.tup [.str Uv,.ref t,.ref p6])=H7 at*;have VH:=s56.trans s7;refine⟨lo,_,_,rfl,rfl,VH _ _ el,by show 0<sizeLine;decide,?_⟩;have nl:=yY (ys:=[]++[.ref p7]) (VH _ _ el);refine⟨⟨_,_,_,_,rfl,bq flo (u3.trans VH),ac,.inr ⟨rfl,.ref p7,rfl,Qy.nl (dZ _ _ (OI k1).1).1 nl ⟨p7,t,p6,ef,rfl,e7,VH _ _ ht,s7 _ _ Wu,Dt.same s7 WB⟩⟩⟩,by rw[ao lolc];exact VH _ _ hlc4,(fun z=>absurd z zd),fun _=>hb⟩
    ·refine⟨_,rfl,p6,_,_,_,rfl,rfl,NL.of Wu,bf,rfl,_,rfl,bj zk ⟨_,rfl,?_⟩⟩;exact q2 hb p6 r x' _ (u5.trans s6) Wu hP
   ·cases z
  ·rintro σ H4 ⟨⟨v3,v4,v5,es,rfl,s4,el,he⟩,_,_,hb⟩;rcases he with⟨z,_⟩|⟨_,y,rfl,hy⟩
   ·cases z
   refine⟨_,rfl,N0,fun p5 n5=>?_⟩;have s5:=af (o:=.tup [.str "alike",.ref lo]) n5;exact q1 (hb rfl) p5 lo y _ (s4.trans s5) ac (s5 _ _ el) (hy.same s5)
def Rp:al [TY,Tw,T5,"_law_told"] [TY,Tw,T5] (ah kQ):=bH zk
def Qs(F:N1 K "_law_right" "_law_right" kQ f fd)(B:Bl mg)(S:Sc K Cs)(AL:Fn P w K mg base "alike" 12 [Th,S4] (Pq K C Cs))(AH:Fn P w K mg base "alike_holds" 11 [Th,S4,"paper"] (OY K C))(RD:Fn P w K mg base "row_done" 9 [SQ,Te,Tn] (A0 C Cs))(TO:bB P w K mg base Cs TV 1 [SN] (kJ Cs)):NN P w K mg base br 13 f fd [TY,Tw,T5] (OS C):=by
 have ZZ:=Rp
 walk_at "o"
 ·obtain⟨v,v2,d,n,sn,e,e2,rfl,h1,h2,k1,k2,q⟩:=h;have hr11:NZ 11 _:=hr.mono zd;obtain⟨f1,K7,M1,F1,B1⟩:=TO;refine⟨_,(ae (bS (i:=3) Rp.nd (ap AL hr rfl (aa (pv 0) (aa (pv 1) ab)))) (ae (aM (bE (pv 2)) (ag (am (cP (bK aY (ax ar (pv 3) ai) aj) (cO (bK fO (ap AH hr11 rfl (aa (pv 0) (aa (pv 1) (aa (ax ar (pv 3) ai) ab)))) cq))))) aw) (ae (aM (PW.pt (de (ak fb (ax ar (pv 3) ai) aj) (de (ak fb (au aH (by rfl) B.len JI (aa (pv 3) ab)) ai) (cX (bP (jR fw fw ai (aK (ax ar (pv 3) ai) rfl) ai)))))) (ag (am cq)) aw) (ag (am (bK (QE hr) (aW (ap RD hr.m rfl (aa (pv 0) (aa (ax ar (pv 3) ai) (aa (ax ar (pv 3) ai) ab))))) (aW (ap RD hr.m rfl (aa (pv 1) (aa (ax ar (pv 3) ai) (aa (ax ar (pv 3) ai) ab))))))))))),?_⟩;refine⟨_,rfl,_,rfl,v,v2,d,n,sn,e,e2,rfl,h1,h2,k1,k2,fun hb p l y H1 s1 hp hl hy=>?_,fun hb p r x H1 s1 hp hP=>?_⟩
  ·refine⟨_,rfl,_,rfl,?_⟩;rw[hb];refine eQ ?_;refine⟨_,rfl,p,_,_,_,rfl,rfl,NL.of hp,bf,rfl,_,rfl,eQ ?_⟩;refine⟨_,rfl,_,rfl,_,rfl,p,_,_,_,rfl,rfl,NL.of hp,cn,v,v2,y,l,d,n,sn,e,e2,rfl,h1.same s1,h2.same s1,k1,k2,Eg hb,hl,hy,fun H2 s2=>?_⟩;exact⟨true,rfl,.inr ⟨true,rfl⟩,q _ (s1.trans s2)⟩
  ·refine⟨_,rfl,_,rfl,?_⟩;rw[hb];refine bJ ?_;obtain⟨dx,pp,m,c,l,Vd,hO⟩:=hP;refine⟨_,rfl,p,_,_,_,rfl,rfl,NL.of hp,bf,rfl,_,rfl,aN zk ?_⟩;refine⟨_,rfl,p,_,rfl,.inr (NL.of hp),rfl,_,rfl,aN (by simp) ?_⟩;refine⟨_,rfl,p,_,_,_,rfl,rfl,NL.of hp,ic,x,Cs,dx,_,_,rfl,hO.ex,S.cl,S.n1,rfl,_,_,rfl,rfl,_,rfl,bj zd ⟨_,_,rfl,rfl,_,rfl,bJ ?_⟩⟩;refine⟨_,rfl,_,rfl,p,_,_,_,rfl,rfl,NL.of hp,ic,_,rfl,p,_,_,_,rfl,rfl,NL.of hp,cn,x,dx,pp,m,c,l,v,r,d,n,sn,e,rfl,h1.same s1,k1,Vd,hO,fun x1 U_ p1 m1 c1 l1 H2 s2 hR=>?_⟩;refine⟨x1,U_,Cs,f1,_,K7,1,[SN],_,rfl,hR.ex,rfl,S.cl,M1,F1,hr.m,B1,x1,U_,p1,m1,c1,l1,_,_,_,_,_,_,_,rfl,hR,fun t1 H3 s3 XT=>?_⟩;have u3:=s2.trans s3;refine⟨_,rfl,_,rfl,p,_,_,_,rfl,rfl,NL.of (u3 _ _ hp),ic,_,rfl,p,_,_,_,rfl,rfl,NL.of (u3 _ _ hp),cn,x,dx,pp,m,c,l,v2,r,d,n,sn,e2,rfl,h2.same (s1.trans u3),k2,Vd.same u3,hO.same u3,fun x2 U9 p2 m2 c2 l2 H4 s4 YC=>?_⟩;refine⟨x2,U9,Cs,f1,_,K7,1,[SN],_,rfl,YC.ex,rfl,S.cl,M1,F1,hr.m,B1,x2,U9,p2,m2,c2,l2,_,_,_,_,_,_,_,rfl,YC,fun t2 H5 s5 WK=>?_⟩;have u5:=s4.trans s5;have j1:=dZ _ _ (lS (d:=d) (s:=sn) k1);have j2:=dZ _ _ (lS (d:=d) (s:=sn) k2);refine⟨_,_,Dt.same u5 (jK XT),jK WK,j1.2.1,j2.2.1,J4 (L_ _ _) (by have:=j1.2.2;lia),?_⟩;rw[BU k1 k2 hb];exact q _ ((s1.trans u3).trans u5)
end
end
def WL(ws:UD):UE:=(ws.map fun w=>cp w++[32]).flatten
def kR(w:Str):Bool:=decide (TK.toks (cp w)=[cp w])
def yZ{w:Str}(h:kR w=true):TK.Tok (cp w):=TK.wD (cp w) _ (by rw[j_ h];exact JL.mpr rfl)
def gp:∀(ws:UD)(r:UE),(∀w∈ws,kR w=true)->TK.toks (WL ws++r)=ws.map cp++TK.toks r
 |[],_,_=>rfl
 |w::ws,r,h=>by
  show TK.toks ((cp w++[32]++WL ws)++r)=cp w::(ws.map cp++TK.toks r);rw[JY,JY];show TK.toks (cp w++32::(WL ws++r))=_;rw[TK.oS (yZ (h w JF)) (.inr ⟨32,_,rfl,rfl⟩),TK.gY rfl,gp ws r fun x hx=>h x (JV _ hx)]
def Qk:UD:=[S8,toString ((9:Nat):Int),";",S1,toString ((7:Nat):Int),";",S9]
def PL:UD:=[";",SZ,"a","b",";",S5,"m",";",TQ,";",S0,Uv,"("]
def zm(n:Nat):UD:=match n with
 |0=>[]
 |1=>["f",Tn]
 |2=>["f",Tn,",","g",Tn]
 |_=>["f",Tn,",","g",Tn,",","h",Tn]
def vM(d n s:Nat)(e:Ee):UD:=Qk++(toString (d:Int):Str)::(PL++(zm n++((")":Str)::iw (jF n s e).bd)))
def Ei(n:Nat):UE:=TK.jn (cp " , ") ((List.range n).map fun j=>cp (nC j)++cp " row")
def A3(s:Nat):Str:=match s with
 |0=>""
 |1=>"set a = ( a + 1 ) ; "
 |2=>"set m = b ; "
 |_=>"set [ b ] = a ; "
def kS:Ee->UE
 |.w0 s=>cp s
 |.fault z=>cp "fault "++cp z
 |.go s j=>cp s++32::cp (nC j)
def A4(d n s:Nat)(e:Ee):UE:=cp "word 9 ; cells 7 ; depth "++(dg d++(cp " ; places a b ; marks m ; gate ;"++(cp " kind k ( "++(Ei n++(cp " ) { "++(cp (A3 s)++(kS e++cp " }")))))))
def Ej:∀w∈Qk++PL++zm 3++([")","{","}"]:UD),kR w=true:=by decide +kernel
def Ek:∀n:Fin 4,∀w∈zm n.1++([")","{"]:UD),kR w=true:=by decide +kernel
def A5:∀s:Fin 4,∀w∈bZ (AM s.1),kR w=true:=by decide +kernel
def El:∀n:Fin 4,∀e∈cQ n.1,∀w∈oC (DR e),kR w=true:=by decide +kernel
def Em:∀d:Fin 9,kR (S (dg d.1))=true:=by decide +kernel
def Eo:cp "word 9 ; cells 7 ; depth "=WL Qk:=by decide +kernel
def Ep:cp " ; places a b ; marks m ; gate ;"++cp " kind k ( "=32::WL PL:=by decide +kernel
def GH:∀n:Fin 4,Ei n.1++cp " ) { "=(if n.1=0 then [32]else [])++WL (zm n.1++([")","{"]:UD)):=by decide +kernel
def Er:∀s:Fin 4,cp (A3 s.1)=WL (bZ (AM s.1)):=by decide +kernel
def GI:∀n:Fin 4,∀e∈cQ n.1,kS e++cp " }"=WL (oC (DR e))++cp "}":=by decide +kernel
def oj:∀n:Fin 4,∀e∈cQ n.1,(kS e).length<=20/\(oC (DR e)).length<=2:=by decide +kernel
def om:∀n:Fin 4,(Ei n.1).length<=30/\(zm n.1).length=3*n.1-1:=by decide +kernel
def sk:∀s:Fin 4,(A3 s.1).length<=30/\(bZ (AM s.1)).length<=12:=by decide +kernel
structure Pm(d n s:Nat)(e:Ee):Prop where
 d8:d<=8
 s3:s<=3
 ok:Os n e
section
variable{e:Ee}{d n s:Nat}
def jM(h:Pm d n s e):(TK.toks (A4 d n s e)).map S=vM d n s e:=by
 have hn:n<4:=by have:=h.ok.1;lia
 have hs:s<4:=by have:=h.s3;lia
 have e1:TK.toks (A4 d n s e)=Qk.map cp++(dg d::(PL.map cp++((zm n++([")","{"]:UD)).map cp++((bZ (AM s)).map cp++((oC (DR e)).map cp++[cp ("}":Str)]))))):=by
  unfold A4;have m1:=Ej;have hd:=yZ (Em ⟨d,by have:=h.d8;lia⟩);rw[HY]at hd;rw[Eo,gp _ _ fun w hw=>m1 w (by simp only[Kc];exact .inl (.inl (.inl hw)))]
  congr 1
  rw[<-JY (cp " ; places a b ; marks m ; gate ;"),Ep,Kr,TK.oS hd (.inr ⟨32,_,rfl,rfl⟩),TK.gY rfl,gp _ _ fun w hw=>m1 w (by simp only[Kc];exact .inl (.inl (.inr hw)))]
  congr 2
  have ci:=GH ⟨n,hn⟩;dsimp only at ci;rw[<-JY (Ei n),ci,JY,TK.lG _ _ (by split<;>simp[TK.gq]),gp _ _ (Ek ⟨n,hn⟩)]
  congr 1
  rw[Er ⟨s,hs⟩,gp _ _ (A5 ⟨s,hs⟩)]
  congr 1
  rw[GI ⟨n,hn⟩ e h.ok.2,gp _ _ (El ⟨n,hn⟩ e h.ok.2)]
  congr 1
 rw[e1];simp only[JR,J9,List.map_nil,xZ,pG,<-fI];simp only[vM,jF,iw,JY,Kr,KS]
def y0(h:Pm d n s e):(A4 d n s e).length<=400:=by
 have hn:n<4:=by have:=h.ok.1;lia
 have hs:s<4:=by have:=h.s3;lia
 have a:=(oj ⟨n,hn⟩ e h.ok.2).1;have b:=(om ⟨n,hn⟩).1;have c:(cp (A3 s)).length<=30:=(sk ⟨s,hs⟩).1;have f:(dg d).length<=1:=(gN d).2 1 (JB _) (by have:=h.d8;lia);have g:(cp "word 9 ; cells 7 ; depth ").length<=30/\(cp " ; places a b ; marks m ; gate ;").length<=40/\(cp " kind k ( ").length<=20/\(cp " ) { ").length<=10/\(cp " }").length<=10:=by decide +kernel
 unfold A4;simp only[JH];dsimp only at a b;lia
def y2(h:Pm d n s e):(vM d n s e).length<=100:=by
 have hn:n<4:=by have:=h.ok.1;lia
 have hs:s<4:=by have:=h.s3;lia
 have a:=(oj ⟨n,hn⟩ e h.ok.2).2;have b:=(om ⟨n,hn⟩).2;have c:=(sk ⟨s,hs⟩).2;dsimp only at a b c;have h1:Qk.length=7:=rfl;have h2:PL.length=13:=rfl;simp only[vM,jF,iw,JH,JX,KO,h1,h2];lia
def so:∀j:Nat,bL (nC j)
 |0=>by unfold bL;decide +kernel
 |1=>by unfold bL;decide +kernel
 |_+2=>by show bL "h";unfold bL;decide +kernel
def GJ:∀{n:Nat}{e:Ee},e∈cQ n->uL (DR e):=by
 intro n e h;unfold cQ at h;rcases Kc.mp h with h|h
 ·simp only[JT,Kj,O_]at h;rcases h with rfl|rfl|rfl|rfl|rfl|rfl
  ·exact(by decide +kernel:(To:Str)∈([(To:Str),(Ta:Str),(Tp:Str)]:UD))
  ·exact(by decide +kernel:(Ta:Str)∈([(To:Str),(Ta:Str),(Tp:Str)]:UD))
  ·exact(by decide +kernel:(Tp:Str)∈([(To:Str),(Ta:Str),(Tp:Str)]:UD))
  ·exact⟨zk,by unfold bL;decide +kernel,fun _=>by decide +kernel⟩
  ·exact⟨zk,by unfold bL;decide +kernel,fun _=>by decide +kernel⟩
  ·exact⟨zk,by unfold bL;decide +kernel,fun _=>by decide +kernel⟩
 ·rcases Kc.mp h with h|h
  ·obtain⟨j,hj,rfl⟩:=Ks.mp h;exact⟨zk,so j,fun z=>absurd z zk⟩
  ·obtain⟨j,hj,rfl⟩:=Ks.mp h;exact⟨zk,so j,fun z=>absurd z zk⟩
def BX(s:Nat):(AM s).length<=1/\(∀g∈AM s,Ae 9 g)/\∀g∈AM s,GZ g<=3:=by
 have na:bL "a":=by unfold bL;decide +kernel
 have nb:bL "b":=by unfold bL;decide +kernel
 have nm:bL "m":=by unfold bL;decide +kernel
 match s with
 |0=>exact⟨zd,(fun g h=>nomatch h),(fun g h=>nomatch h)⟩
 |1=>exact⟨zd,fun g h=>by rw[JL.mp h];exact⟨na,zk,na,(by decide:1<2^9)⟩,fun g h=>by rw[JL.mp h];decide⟩
 |2=>exact⟨zd,fun g h=>by rw[JL.mp h];exact⟨nm,nb⟩,fun g h=>by rw[JL.mp h];decide⟩
 |k+3=>exact⟨JB 1,fun g h=>by rw[JL.mp h];exact⟨nb,na⟩,fun g h=>by rw[JL.mp h];decide⟩
def GK(h:e∈cQ n):jo 9 3 (jF n s e).bd:=by
 obtain⟨a,b,_⟩:=BX s;refine⟨J4 a zd,b,fun i j g g2 hi hj _ _=>?_,GJ h⟩;have h1:=(JA.mp hi).1;have h2:=(JA.mp hj).1;lia
def y3(h:Os n e):qR (vM d n s e) 9 18 (jF n s e)/\18+uQ (jF n s e)=(vM d n s e).length:=by
 have hb:=GK (s:=s) h.2;have hr:(Tn:Str)∈km:=by decide +kernel
 have nf:=so;have nk:bL Uv:=by unfold bL;decide +kernel
 have K4:(jp n).length=n:=by unfold jp;simp
 have bt:∀A:UD,A.length=18+4+(3*n-1)->vM d n s e=A++(iw (jF n s e).bd++[])->At (vM d n s e) (18+4+(3*(jF n s e).fs.length-1)) (iw (jF n s e).bd):=fun A hA hE=>FF hE (by show _=18+4+(3*(jp n).length-1);rw[K4];exact hA);have hl:18+uQ (jF n s e)=(vM d n s e).length:=by
  have b:=(om ⟨n,by have:=h.1;lia⟩).2;dsimp only at b;have h1:Qk.length=7:=rfl;have h2:PL.length=13:=rfl;show 18+(4+(3*(jp n).length-1)+_)=_;rw[K4];simp only[vM,JH,JX,h1,h2,b];lia
 refine⟨?_,hl⟩
 match n,h.1,hb,bt with
 |0,_,hb,bt=>exact⟨rfl,rfl,nk,rfl,fun i hi=>absurd hi (Nat.not_lt_zero _),rfl,(by decide:0<=3),bt (Qk++(toString (d:Int):Str)::(PL++(zm 0++[(")":Str)]))) rfl (by rw[Ko];rfl),hb⟩
 | 1,_,hb,bt=>exact⟨rfl,rfl,nk,rfl,fun i hi=>by
   match i,hi with
   | 0,_=>exact⟨rfl,nf 0,rfl,hr,fun z=>absurd z (Kk _)⟩,rfl,(by decide:1<=3),bt (Qk++(toString (d:Int):Str)::(PL++(zm 1++[(")":Str)]))) rfl (by rw[Ko];rfl),hb⟩
 | 2,_,hb,bt=>exact⟨rfl,rfl,nk,rfl,fun i hi=>by
   match i,hi with
   |0,_=>exact⟨rfl,nf 0,rfl,hr,fun _=>rfl⟩
   | 1,_=>exact⟨rfl,nf 1,rfl,hr,fun z=>absurd z (Kk _)⟩,rfl,(by decide:2<=3),bt (Qk++(toString (d:Int):Str)::(PL++(zm 2++[(")":Str)]))) rfl (by rw[Ko];rfl),hb⟩
 | 3,_,hb,bt=>exact⟨rfl,rfl,nk,rfl,fun i hi=>by
   match i,hi with
   |0,_=>exact⟨rfl,nf 0,rfl,hr,fun _=>rfl⟩
   |1,_=>exact⟨rfl,nf 1,rfl,hr,fun _=>rfl⟩
   | 2,_=>exact⟨rfl,nf 2,rfl,hr,fun z=>absurd z (Kk _)⟩,rfl,(by decide:3<=3),bt (Qk++(toString (d:Int):Str)::(PL++(zm 3++[(")":Str)]))) rfl (by rw[Ko];rfl),hb⟩
def pW(h:Pm d n s e):qU (vM d n s e) (lQ d n s e):=by
 have na:bL "a":=by unfold bL;decide +kernel
 have nb:bL "b":=by unfold bL;decide +kernel
 have nm:bL "m":=by unfold bL;decide +kernel
 have np:lL (vM d n s e) 10 (lQ d n s e).places:=fun i hi=>by
  match i,hi with
  |0,_=>exact⟨rfl,na⟩
  |1,_=>exact⟨rfl,nb⟩
 have nq:lL (vM d n s e) (12+(lQ d n s e).places.length) (lQ d n s e).marks:=fun i hi=>by
  match i,hi with
  |0,_=>exact⟨rfl,nm⟩
 exact {a0:=rfl,a1:=rfl,a2:=rfl,a3:=rfl,a4:=rfl,a5:=rfl,a6:=rfl,a7:=rfl,a8:=rfl,a9:=rfl,pn:=np,pe:=rfl,m9:=rfl,mn:=nq,me:=rfl,g9:=rfl,gn:=fun i hi=>absurd hi (Nat.not_lt_zero _),ge:=rfl,ks:=y3 h.ok,bw:=⟨(by decide:4<=9),(by decide:9<=24)⟩,bc:=⟨(by decide:4<=7),(by decide:7<=64)⟩,bd:=h.d8,bp:=⟨(by decide:1<=2),(by decide:2<=4)⟩,bm:=(by decide:1<=3),bg:=(by decide:0<=1),bk:=⟨(by decide:1<=1),(by decide:1<=8)⟩ }
def BY:List Ne:=[("a",SU,false,0),("b",SU,false,1),("m",S2,false,0)]
def tV:∀n:Fin 4,∀j<n.1,(nC j,(Tn:Str),true,j)∈BY++fN (jp n.1):=by decide +kernel
def GL:∀n:Fin 4,((BY++fN (jp n.1)).map (·.1)).Nodup:=by decide +kernel
def IK(hn:n<4)(h:e∈cQ n):EM (BY++fN (jp n)) (DR e) e:=by
 cases yO h with
 |next=>exact .w0 zk
 |back=>exact .w0 zk
 |stop=>exact .w0 zk
 |fault z=>exact .fault z
 |go j hj=>exact .go zk (tV ⟨n,hn⟩ j hj)
 |call j hj=>exact .go zk (tV ⟨n,hn⟩ j hj)
def IL(s:Nat)(r:List Ne):Paired (EL (BY++r)) (AM s) (ik s):=by
 have ha:(("a":Str),(SU:Str),false,0)∈BY++r:=JZ _ zk;have hb:(("b":Str),(SU:Str),false,1)∈BY++r:=JZ _ zk;have hm:(("m":Str),(S2:Str),false,0)∈BY++r:=JZ _ zk
 match s with
 |0=>exact .nil
 |1=>exact .cons (.pl ha (.two zk (.pl ha) (.num 1))) .nil
 |2=>exact .cons (.mk hm (.pl hb)) .nil
 |k+3=>exact .cons (.cell (.pl hb) (.pl ha)) .nil
def on(h:Os n e):rf (lQ d n s e):=by
 have hn:n<4:=by have:=h.1;lia
 have Xv:iY (lQ d n s e)=BY:=rfl;obtain⟨g1,_,g3⟩:=BX s;refine⟨by rw[Xv];decide +kernel,(fun z hz=>nomatch hz),(by decide:0<=1),by rw[show(lQ d n s e).kinds.map Kn.name=[(Uv:Str)]from rfl];decide +kernel,fun x hx=>?_,(by decide:2<=4),(by decide:1<=3),(by decide:1<=8)⟩;rw[JL.mp hx,Xv];exact⟨GL ⟨n,hn⟩,by show(jp n).length<=3;unfold jp;rw[JC,k_];exact h.1,.leaf (IL s _) (IK hn h.2),JN _,g3,J4 g1 zd⟩
end
abbrev iu:Stmt:=top 163
abbrev jN:Stmt:=top 164
abbrev oo:Stmt:=top 165
abbrev lT:Stmt:=top 167
def y4{H H':Hp}{K:ZF}{a:Ux}{xs:UG}(h:NQ K H a xs)(s:NJ H H'):NQ K H' a xs:=by
 rcases h with(h|⟨o,h⟩)|h
 ·exact .inl (.inl (s _ _ h))
 ·exact .inl (.inr ⟨o,s _ _ h⟩)
 ·exact .inr h
def Et{d:Nat}(h:d<2^25):((d:Nat):Int).natAbs.log2<1920:=by
 rw[Int.natAbs_natCast];by_cases h0:d=0
 ·subst h0;decide
 ·exact JW ((Nat.log2_lt h0).mpr h) zd
def tW(n:Nat):UG:=(List.range n).map fun j=>V.str (nC j)
def BZ(n:Nat):UG:=(cQ n).map fun e=>V.str (S (kS e))
def k9(w:Str)(n:Nat):UG:=(List.range n).map fun j=>V.str (w++nC j)
def IM:∀n:Fin 4,([V.str To,.str Ta,.str Tp,.str "fault zq",.str "fault deepq",.str "fault ba"]++k9 "go " n.1)++k9 "call " n.1=BZ n.1:=by decide +kernel
section
variable{n i:Nat}
def y6{x:V}(h:(tW n)[i]?=some x):i<n/\x=.str (nC i):=by
 unfold tW at h;rw[J5]at h;by_cases hi:i<n
 ·rw[N_ hi]at h;exact⟨hi,(JS h).symm⟩
 ·rw[List.getElem?_eq_none (by rw[k_];lia)]at h;cases h
def tX(w:Str)(i:Nat):k9 w (i+1)=k9 w i++[V.str (w++nC i)]:=by
 unfold k9;rw[Kz,JR];rfl
def kT(w:Str)(i:Nat):(k9 w i).length=i:=by unfold k9;rw[JC,k_]
def eZ(n:Nat):(tW n).length=n:=by unfold tW;rw[JC,k_]
def oq:∀j:Nat,(nC j).length=1
 |0=>rfl
 |1=>rfl
 |_+2=>rfl
inductive ot(vs:UG)(H:Hp)(Q:VK)(Z3:XK):Prop
 |mk(l:Ux)(n:Nat):vs=[.ref l]->H l=some (.lst (tW n))->n<=3->(∀r H',NJ H H'->H r=none->H' r=some (.lst (BZ n))->Q (.ref r) H')->ot vs H Q Z3
inductive ou(vs:UG)(H:Hp)(Q:VK)(Z3:XK):Prop
 |mk(l:Ux)(d n s:Nat)(e:Ee):vs=[.int (d:Int),.ref l,.str (A3 s),.str (S (kS e))]->H l=some (.lst (tW n))->Pm d n s e->(∀H',NJ H H'->Q (.str (S (A4 d n s e))) H')->ou vs H Q Z3
inductive ow(vs:UG)(H:Hp)(Q:VK)(Z3:XK):Prop
 |mk(d n:Nat)(e e2:Ee):vs=[.int (d:Int),.str (S (kS e)),.str (S (kS e2))]->Os n e->Os n e2->Q (.bl (vL d e e2)) H->ow vs H Q Z3
def GN(z:Bool)(e e2:Ee):Bool:=decide (S (kS e)=S (kS e2))||(z&&(decide (S (fg (kS e) none (some 4))=S_)&&decide (S (fg (kS e2) none (some 4))=S_)))
def Eu:∀n:Fin 4,∀e∈cQ n.1,∀e2∈cQ n.1,GN true e e2=vL 0 e e2/\GN false e e2=vL 1 e e2:=by decide +kernel
def oy(K:ZF):Sp:=fun vs H Q _=>∃(a:Ux)(ns:List Int),vs=[.ref a]/\NQ K H a (ns.map V.int)/\ns.length<=63/\∀H',Q (.bl true) H'
variable{P:Uz}{w:UA}{K:ZF}{mg:Str->Option Uw}{base:Heap}{C fi aS aE aF aO:Ux}{t1 t2 t3 t4 t5 tM:Tok}
def Ro:al [Tj,"_law_found"] [Tj] (ah iu):=bH zk
def Ev:(["_law_name"]:UD).Nodup:=by decide +kernel
def y8(F:N1 K "_law_ends" "_law_ends" iu f fd):NN P w K mg base br 1 f fd [Tj] ot:=by
 have ZZ:=Ro
 walk_at "o"
 ·obtain⟨l,n,rfl,hl,hn,q⟩:=h;have sz:(100:Nat)<=sizeLine:=by decide
  refine⟨_,(ae (bS (i:=1) Ro.nd (bF (aa aj (aa aj (aa aj (aa aj (aa aj (aa aj ab)))))))) (ag (am (aX ei (aX ei (pv 1) (cI (N':=["_law_name"]) (ix:=[none]) (sc0:=ah iu) (N:=[Tj,"_law_found"]) rfl zk (bV (pv 0)) (fun _ _ _ _ _=>(bM (i:=0) Ev)) (fun _ _ _ _ _=>bz) (fun _ _ _ _ _=>(aX bY aj (pv 0))))) (cI (N':=["_law_name"]) (ix:=[none]) (sc0:=ah iu) (N:=[Tj,"_law_found"]) rfl zk (bV (pv 0)) (fun _ _ _ _ _=>(bM (i:=0) Ev)) (fun _ _ _ _ _=>bz) (fun _ _ _ _ _=>(aX bY aj (pv 0)))))))),?_⟩;refine⟨N0,fun l1 n1=>?_⟩;have s1:=af (o:=.lst [.str To,.str Ta,.str Tp,.str "fault zq",.str "fault deepq",.str "fault ba"]) n1;have e1:az H l1 (.lst [.str To,.str Ta,.str Tp,.str "fault zq",.str "fault deepq",.str "fault ba"]) l1=some (.lst [.str To,.str Ta,.str Tp,.str "fault zq",.str "fault deepq",.str "fault ba"]):=ac;generalize az H l1 (.lst [.str To,.str Ta,.str Tp,.str "fault zq",.str "fault deepq",.str "fault ba"])=H1 at*;refine⟨_,rfl,_,rfl,l,rfl,⟨_,NQ.of (s1 _ _ hl)⟩,?_⟩;refine db (K:=K) (a:=l) (xs:=tW n) (fun i ys H'=>NJ H1 H'/\ys=k9 "go " i) ⟨NJ.refl _,rfl⟩ (fun i ys H' hi⟨s',e⟩=>⟨NQ.of ((s1.trans s') _ _ hl),by rw[e,kT];rw[eZ]at hi;lia⟩) ?_ ?_
  ·rintro i x ys H' hx ⟨s',rfl⟩;obtain⟨hi,rfl⟩:=y6 hx;refine⟨trivial,bC ⟨_,rfl,_,_,rfl,rfl,by rw[oq];show 3+1<=_;lia,?_⟩⟩;exact Nx.mk (by rw[eZ];exact hi) ⟨s',(tX _ _).symm⟩
  rintro ys H2 ⟨s2,rfl⟩ l3 n3;rw[eZ];have s3:=af (o:=.lst (k9 "go " n)) n3;have e3:az H2 l3 (.lst (k9 "go " n)) l3=some (.lst (k9 "go " n)):=ac;generalize az H2 l3 (.lst (k9 "go " n))=H3 at*;have u3:=s2.trans s3;refine⟨l1,l3,_,_,rfl,rfl,u3 _ _ e1,e3,by rw[kT];show 6+n<=_;lia,fun l4 n4=>?_⟩;have s4:=af (o:=.lst ([.str To,.str Ta,.str Tp,.str "fault zq",.str "fault deepq",.str "fault ba"]++k9 "go " n)) n4;have e4:az H3 l4 (.lst ([.str To,.str Ta,.str Tp,.str "fault zq",.str "fault deepq",.str "fault ba"]++k9 "go " n)) l4=some (.lst ([.str To,.str Ta,.str Tp,.str "fault zq",.str "fault deepq",.str "fault ba"]++k9 "go " n)):=ac;generalize az H3 l4 (.lst ([.str To,.str Ta,.str Tp,.str "fault zq",.str "fault deepq",.str "fault ba"]++k9 "go " n))=H4 at*;have u4:=(s1.trans u3).trans s4;refine⟨_,rfl,l,rfl,⟨_,NQ.of (u4 _ _ hl)⟩,?_⟩;refine db (K:=K) (a:=l) (xs:=tW n) (fun i ys H'=>NJ H4 H'/\ys=k9 "call " i) ⟨NJ.refl _,rfl⟩ (fun i ys H' hi⟨s',e⟩=>⟨NQ.of ((u4.trans s') _ _ hl),by rw[e,kT];rw[eZ]at hi;lia⟩) ?_ ?_
  ·rintro i x ys H' hx ⟨s',rfl⟩;obtain⟨hi,rfl⟩:=y6 hx;refine⟨trivial,bC ⟨_,rfl,_,_,rfl,rfl,by rw[oq];show 5+1<=_;lia,?_⟩⟩;exact Nx.mk (by rw[eZ];exact hi) ⟨s',(tX _ _).symm⟩
  rintro ys H5 ⟨s5,rfl⟩ l6 n6;rw[eZ];have s6:=af (o:=.lst (k9 "call " n)) n6;have e6:az H5 l6 (.lst (k9 "call " n)) l6=some (.lst (k9 "call " n)):=ac;generalize az H5 l6 (.lst (k9 "call " n))=H6 at*;have u6:=s5.trans s6;refine⟨l4,l6,_,_,rfl,rfl,u6 _ _ e4,e6,by rw[JH,kT,kT];show 6+n+n<=_;lia,fun l7 n7=>?_⟩;have u:=u4.trans u6;exact q l7 _ (u.trans (af n7)) (none_of u n7) (by rw[ac];exact i_ (fun z=>some (HO.lst z)) (IM ⟨n,zo⟩))
def QO:al [Ts,Tj,Ua,Ue,"_law_inner","_law_head"] [Ts,Tj,Ua,Ue] (ah jN):=bH zk
def Ew(n:Nat):((List.range n).map fun j=>cp (nC j)++cp " row").map (fun t=>V.str (S t))=(List.range n).map fun j=>V.str (nC j++" row"):=by
 rw[KR];refine List.map_congr_left fun j _=>?_;show V.str (S (cp (nC j)++cp " row"))=_;rw[<-wT,pG,pG]
def IQ(a b c f g h i j k:UE):((((((((S a++S b)++S c)++S f)++S g)++S h)++S i)++S j)++S k)=S (a++(b++(c++(f++(g++(h++(i++(j++k)))))))):=by simp only[wT,JY]
def Ey(d n s:Nat)(e:Ee):(((((((("word 9 ; cells 7 ; depth ":Str)++(toString (d:Int):Str))++" ; places a b ; marks m ; gate ;")++" kind k ( ")++S (Ei n))++" ) { ")++A3 s)++S (kS e))++" }"=S (A4 d n s e):=by
 have:=IQ (cp "word 9 ; cells 7 ; depth ") (dg d) (cp " ; places a b ; marks m ; gate ;") (cp " kind k ( ") (Ei n) (cp " ) { ") (cp (A3 s)) (kS e) (cp " }");rw[<-fI]at this;simp only[pG]at this;exact this
def gS(a b:Str):(a++b).length=a.length+b.length:=by
 have:=bG (cp a++cp b);rw[<-wT,pG,pG,JH]at this;exact this
def y9(F:N1 K "_law_text" "_law_text" jN f fd)(B:Bl mg):NN P w K mg base br 1 f fd [Ts,Tj,Ua,Ue] ou:=by
 have ZZ:=QO
 walk_at "o"
 ·obtain⟨l,d,n,sn,e,rfl,hl,hm,q⟩:=h;have sz:(100000:Nat)<=sizeLine:=by decide
  have hn:=hm.ok.1;refine⟨_,(ae (bS (i:=4) QO.nd (fe PySem.F.plainAttrs_str PySem.F.slot_str_join PySem.F.type_str_join zN aj (aa (cI (N':=["_law_name"]) (ix:=[none]) (sc0:=ah jN) (N:=[Ts,Tj,Ua,Ue,"_law_inner","_law_head"]) rfl zk (bV (pv 1)) (fun _ _ _ _ _=>(bM (i:=0) Ev)) (fun _ _ _ _ _=>bz) (fun _ _ _ _ _=>(aX bY (pv 0) aj))) ab))) (ae (bS (i:=5) QO.nd (aX bY (aX bY aj (aV lZ (by rfl) B.str fZ (aa (pv 0) ab))) aj)) (ag (am (aX bY (aX bY (aX bY (aX bY (aX bY (aX bY (pv 5) aj) (pv 4)) aj) (pv 2)) (pv 3)) aj))))),?_⟩;refine⟨rfl,_,rfl,l,rfl,⟨_,NQ.of hl⟩,?_⟩;refine db (K:=K) (a:=l) (xs:=tW n) (fun i ys H'=>H'=H/\ys=(List.range i).map fun j=>V.str (nC j++" row")) ⟨rfl,rfl⟩ (fun i ys H' hi⟨s',e⟩=>⟨by rw[s'];exact NQ.of hl,by rw[e,JC,k_];rw[eZ]at hi;lia⟩) ?_ ?_
  ·rintro i x ys H' hx ⟨rfl,rfl⟩;obtain⟨hi,rfl⟩:=y6 hx;refine⟨trivial,bC ⟨_,rfl,_,_,rfl,rfl,by rw[oq];show 1+4<=_;lia,?_⟩⟩;refine Nx.mk (by rw[eZ];exact hi) ⟨rfl,?_⟩;rw[Kz,JR];rfl
  rintro ys H1 ⟨rfl,rfl⟩ l1 n1;rw[eZ,<-Ew];have s1:=af (o:=.lst (((List.range n).map fun j=>cp (nC j)++cp " row").map fun t=>V.str (S t))) n1;have e1:az H1 l1 (.lst (((List.range n).map fun j=>cp (nC j)++cp " row").map fun t=>V.str (S t))) l1=some (.lst (((List.range n).map fun j=>cp (nC j)++cp " row").map fun t=>V.str (S t))):=ac;generalize az H1 l1 _=H2 at*;refine⟨cp " , ",l1,_,i_ V.str (pG _).symm,rfl,NQ.of e1,?_,?_⟩
  ·match n,hn with
   |0,_=>decide +kernel
   |1,_=>decide +kernel
   |2,_=>decide +kernel
   |3,_=>decide +kernel
  have hs:sn<4:=by have:=hm.s3;lia
  have b1:=(oj ⟨n,zo⟩ e hm.ok.2).1;have b2:=(om ⟨n,zo⟩).1;have b3:=(sk ⟨sn,hs⟩).1;have b4:(toString (d:Int):Str).length<=1:=by rw[fI,bG];exact(gN d).2 1 (JB _) (by have:=hm.d8;lia)
  have b5:("word 9 ; cells 7 ; depth ":Str).length<=30/\(" ; places a b ; marks m ; gate ;":Str).length<=40/\(" kind k ( ":Str).length<=20/\(" ) { ":Str).length<=10/\(" }":Str).length<=10:=by decide +kernel
  dsimp only at b1 b2 b3;have ej:S (TK.jn (cp " , ") ((List.range n).map fun j=>cp (nC j)++cp " row"))=S (Ei n):=rfl;rw[ej];refine⟨_,rfl,_,rfl,Et (by have:=hm.d8;lia),?_⟩;refine⟨_,_,rfl,rfl,zo,_,_,rfl,rfl,by rw[gS];lia,?_⟩;refine⟨_,rfl,_,_,rfl,rfl,by simp only[gS,bG];lia,_,rfl,_,_,rfl,rfl,by simp only[gS,bG];lia,_,_,rfl,rfl,by simp only[gS,bG];lia,_,rfl,_,_,rfl,rfl,by simp only[gS,bG];lia,_,rfl,_,_,rfl,rfl,by simp only[gS,bG];lia,_,_,rfl,rfl,by simp only[gS,bG];lia,?_⟩;rw[Ey];exact q _ s1
def IU:al [Ts,TY,Tw] [Ts,TY,Tw] (ah oo):=bH zk
def B0{e:Ee}(h:Os n e):(kS e).length<=100000:=by
 have:=(oj ⟨n,by have:=h.1;lia⟩ e h.2).1;lia
def za(F:N1 K "_law_same" "_law_same" oo f fd):NN P w K mg base br 1 f fd [Ts,TY,Tw] ow:=by
 have ZZ:=IU
 walk_at "o"
 ·obtain⟨d,n,e,e2,rfl,k1,k2,q⟩:=h;have hb:=Eu ⟨n,by have:=k1.1;lia⟩ e k1.2 e2 k2.2;have hz:GN (decide (d=0)) e e2=vL d e e2:=by
   cases d with
   |zero=>exact hb.1
   |succ d=>exact hb.2
  rw[<-hz]at q;refine⟨_,(ae (aM (ak aY (pv 1) (pv 2)) (ag (am cq)) aw) (ag (am (cP (bK aY (pv 0) ai) (cP (bK aY (cB jZ (pv 1) dN (cy ai)) aj) (cO (bK aY (cB jZ (pv 2) dN (cy ai)) aj))))))),?_⟩;refine⟨_,rfl,_,rfl,rfl,_,rfl,eD (fun h=>?_) (fun h=>?_)⟩
  ·have:S (kS e)=S (kS e2):=V.str.inj (j_ h);unfold GN at q;rw[b_ this,Bool.true_or]at q;exact q
  ·have La:¬S (kS e)=S (kS e2):=fun z=>h (b_ (i_ V.str z));unfold GN at q;rw[d_ La,Bool.false_or]at q;refine⟨_,rfl,rfl,_,rfl,?_⟩;by_cases hd:d=0
   ·refine bj (b_ (by rw[hd];rfl)) ?_;rw[b_ hd,Bool.true_and]at q;refine⟨_,rfl,_,rfl,_,rfl,B0 k1,rfl,_,rfl,?_⟩;by_cases hc:S (fg (kS e) none (some 4))=S_
    ·refine bj (b_ (i_ V.str hc)) ?_;rw[b_ hc,Bool.true_and]at q;refine⟨_,rfl,_,rfl,_,rfl,B0 k2,rfl,?_⟩;rw[show decide (V.str (S (fg (kS e2) none (some 4)))=V.str S_)=decide (S (fg (kS e2) none (some 4))=S_)from decide_eq_decide.mpr ⟨V.str.inj,i_ V.str⟩];exact q
    ·refine aN (d_ fun z=>hc (V.str.inj z)) ?_;rw[d_ hc,SI]at q;exact q
   ·refine aN (d_ fun z=>hd (by have:=V.int.inj z;lia)) ?_;rw[d_ hd,SI]at q;exact q
end
def Ez:∀n:Fin 4,dD [V.str "f",.str "g",.str "h"] none (some (n.1:Int))=tW n.1:=by decide +kernel
def EA(r:Nat)(hr:r<9)(k:Nat)(hk:k<4):∃d:Nat,d<=8/\sF ([V.int 0,.int 1,.int 8,.int (r:Int)]:UG) (k:Int)=some (.int (d:Int)):=by
 match k,hk with
 |0,_=>exact⟨0,zd,bD (j:=0) rfl⟩
 |1,_=>exact⟨1,zd,bD (j:=1) rfl⟩
 |2,_=>exact⟨8,zd,bD (j:=2) rfl⟩
 |3,_=>exact⟨r,zo,bD (j:=3) rfl⟩
def EB(k:Nat)(hk:k<4):sF ([V.str "",.str "set a = ( a + 1 ) ; ",.str "set m = b ; ",.str "set [ b ] = a ; "]:UG) (k:Int)=some (.str (A3 k)):=by
 match k,hk with
 |0,_=>exact bD (j:=0) rfl
 |1,_=>exact bD (j:=1) rfl
 |2,_=>exact bD (j:=2) rfl
 |3,_=>exact bD (j:=3) rfl
def tY(n:Nat):(BZ n).length=6+2*n:=by
 unfold BZ cQ;simp only[JC,JH,k_,JX,KO];lia
variable{x:V}{n i:Nat}
def zb(h:(BZ n)[i]?=some x):∃e,e∈cQ n/\x=.str (S (kS e)):=by
 unfold BZ at h;rw[J5]at h;cases he:(cQ n)[i]? with
 |none=>rw[he]at h;cases h
 |some e=>rw[he]at h;exact⟨e,JP he,(JS h).symm⟩
inductive Jj(H:Hp)(l:Ux)(σ:St)(H':Hp):Prop
 |mk(v1 v2 v3 v4 v5 v6 v7 v8 v9 Vf:Option V):σ=[some (.ref l),v1,v2,v3,v4,v5,v6,v7,v8,v9,Vf]->NJ H H'->Jj H l σ H'
inductive Jk(H:Hp)(σ0:List (Option V))(σ:St)(H':Hp):Prop
 |mk(v9 Vf:Option V):σ=σ0++[v9,Vf]->NJ H H'->Jk H σ0 σ H'
variable{P:Uz}{w:UA}{K:ZF}{mg:Str->Option Uw}{base:Heap}{C fi aS aE aF aO:Ux}{t1 t2 t3 t4 t5 tM:Tok}
def Oo:al [Tq,"_law_k",Tz,Ts,Tj,Ua,"_law_ends_here","_law_first",TY,Ue,Tw] [Tq] (ah lT):=bH zk
def zc(F:N1 K "law" "law" lT f fd)(B:Bl mg)(CL:Fn P w K mg base "_law_cell" 1 [Tq,"_law_k"] (qE K))(ST:Fn P w K mg base "_law_stream" 1 [T4] kg)(YI:Fn P w K mg base "_law_take" 1 [Tz,"_law_many"] qF)(LE:Fn P w K mg base "_law_ends" 1 [Tj] ot)(TX:Fn P w K mg base "_law_text" 1 [Ts,Tj,Ua,Ue] ou)(SA:Fn P w K mg base "_law_same" 1 [Ts,TY,Tw] ow)(RT:Fn P w K mg base "read_table" n [T6] (Du C))(LR:Fn P w K mg base "_law_right" n [TY,Tw,T5] (OS C))(hn:1<=n):NN P w K mg base br (n+1) f fd [Tq] (oy K):=by
 have ZZ:=Oo
 walk_at "o"
 ·obtain⟨l,ns,rfl,hS,hl,q⟩:=h;have K5:NZ 1 _:=hr.mono hn;have sz:(100000:Nat)<=sizeLine:=by decide
  refine⟨_,(ae (cv f_ rfl (cF rfl B.range (aa (au (um rfl) (by rfl) B.max PyProof.Rows.boot_max (aa ai (aa (au (uo rfl) (by rfl) B.min PyProof.Rows.boot_min (aa (au aH (by rfl) B.len JI (aa (pv 0) ab)) (aa ai ab))) ab))) ab)) (bM (i:=1) Oo.nd) (ae (bS (i:=2) Oo.nd (ap ST K5 rfl (aa (ap CL K5 rfl (aa (pv 0) (aa (pv 1) ab))) ab))) (ae (bS (i:=3) Oo.nd (ax b9 (bF (aa ai (aa ai (aa ai (aa (ap YI K5 rfl (aa (pv 2) (aa ai ab))) ab))))) (ap YI K5 rfl (aa (pv 2) (aa ai ab))))) (ae (bS (i:=4) Oo.nd (cB mj (bF (aa aj (aa aj (aa aj ab)))) dN (cy (ap YI K5 rfl (aa (pv 2) (aa ai ab)))))) (ae (bS (i:=5) Oo.nd (ax b9 (bF (aa aj (aa aj (aa aj (aa aj ab))))) (ap YI K5 rfl (aa (pv 2) (aa ai ab))))) (ae (bS (i:=6) Oo.nd (ap LE K5 rfl (aa (pv 4) ab))) (ae (bS (i:=7) Oo.nd (ax b9 (pv 6) (ap YI K5 rfl (aa (pv 2) (aa (au aH (by rfl) B.len JI (aa (pv 6) ab)) ab))))) (ae (bS (i:=8) Oo.nd (ap RT hr rfl (aa (ap TX K5 rfl (aa (pv 3) (aa (pv 4) (aa (pv 5) (aa (pv 7) ab))))) ab))) (ag (cv f_ rfl (bV (pv 6)) (bM (i:=9) Oo.nd) (ae (bS (i:=10) Oo.nd (ap RT hr rfl (aa (ap TX K5 rfl (aa (pv 3) (aa (pv 4) (aa (pv 5) (aa (pv 9) ab))))) ab))) (ag (aM (bP (bE (ap LR hr rfl (aa (pv 8) (aa (pv 10) (aa (ap SA K5 rfl (aa (pv 3) (aa (pv 7) (aa (pv 9) ab)))) ab)))))) (ag (am cq)) aw))))))))))))) (ag (am cq))),?_⟩;refine⟨_,rfl,l,_,rfl,.inl hS,_,_,rfl,_,_,rfl,_,rfl,?_,?_,?_⟩
  ·split<;>(try split)<;>lia
  ·rw[JC];split<;>(try split)<;>lia
  refine ul (lo:=0) (fun i σ H'=>Jj H l σ H') ⟨_,_,_,_,_,_,_,_,_,_,rfl,NJ.refl _⟩ ?_ ?_
  ·rintro i σ H1 hi ⟨v1,v2,v3,v4,v5,v6,v7,v8,v9,Vf,rfl,s1⟩;refine⟨_,rfl,_,rfl,l,ns,0+(i:Int),rfl,y4 hS s1,zo,fun c=>⟨c,rfl,fun p H2 np s2 g2=>?_⟩⟩;have Ya:∀{x o},H1 x=some o->x≠p:=fun e=>aI e np;refine⟨_,rfl,p,9,rfl,g2,zd,zd,fun r H3 VC g3 b3=>?_⟩;refine⟨N0,fun l4 n4=>?_⟩;have s4:=af (o:=.lst [.int 0,.int 1,.int 8,.int (r:Int)]) n4;have e4:az H3 l4 (.lst [.int 0,.int 1,.int 8,.int (r:Int)]) l4=some (.lst [.int 0,.int 1,.int 8,.int (r:Int)]):=ac;have p4:l4≠p:=(g3.ne n4).symm;generalize az H3 l4 (.lst [.int 0,.int 1,.int 8,.int (r:Int)])=H4 at*;refine⟨_,rfl,p,4,rfl,g3.same s4,zd,zd,fun k H5 hk5 g5 b5=>?_⟩;obtain⟨d,hd,UQ⟩:=EA r VC k hk5;refine⟨l4,_,_,_,rfl,rfl,NQ.of (b5 _ _ e4 p4),UQ,?_⟩;refine⟨N0,fun l6 n6=>?_⟩;have s6:=af (o:=.lst [.str "f",.str "g",.str "h"]) n6;have e6:az H5 l6 (.lst [.str "f",.str "g",.str "h"]) l6=some (.lst [.str "f",.str "g",.str "h"]):=ac;have p6:l6≠p:=(g5.ne n6).symm;generalize az H5 l6 (.lst [.str "f",.str "g",.str "h"])=H6 at*;refine⟨_,rfl,p,4,rfl,g5.same s6,zd,zd,fun nn H7 hn7 g7 b7=>?_⟩;refine⟨_,rfl,l6,_,rfl,NQ.of (b7 _ _ e6 p6),fun lf nf=>?_⟩;rw[Ez ⟨nn,hn7⟩];have s8:=af (o:=.lst (tW nn)) nf;have e8:az H7 lf (.lst (tW nn)) lf=some (.lst (tW nn)):=ac;have pf:lf≠p:=(g7.ne nf).symm;generalize az H7 lf (.lst (tW nn))=H8 at*;refine⟨N0,fun l9 n9=>?_⟩;have s9:=af (o:=.lst [.str "",.str "set a = ( a + 1 ) ; ",.str "set m = b ; ",.str "set [ b ] = a ; "]) n9;have e9:az H8 l9 (.lst [.str "",.str "set a = ( a + 1 ) ; ",.str "set m = b ; ",.str "set [ b ] = a ; "]) l9=some (.lst [.str "",.str "set a = ( a + 1 ) ; ",.str "set m = b ; ",.str "set [ b ] = a ; "]):=ac;have g8:=g7.same s8;have p9:l9≠p:=(g8.ne n9).symm;generalize az H8 l9 (.lst [.str "",.str "set a = ( a + 1 ) ; ",.str "set m = b ; ",.str "set [ b ] = a ; "])=H9 at*;refine⟨_,rfl,p,4,rfl,g8.same s9,zd,zd,fun sn Ha hsa ga ba=>?_⟩;refine⟨l9,_,_,_,rfl,rfl,NQ.of (ba _ _ e9 p9),EB sn hsa,?_⟩;have ea:=ba _ _ (s9 _ _ e8) pf;refine⟨_,rfl,lf,nn,rfl,ea,zo,fun le Hb sb nb eb=>?_⟩;have gb:=ga.same sb;have pb:le≠p:=(ga.ne nb).symm;refine⟨_,rfl,_,rfl,_,rfl,le,_,rfl,.inl (NQ.of eb),?_⟩;refine⟨p,6+2*nn,by rw[tY],gb,zo,zo,fun fi Hc hfi gc bc=>?_⟩;obtain⟨x1,hx1⟩:∃x,(BZ nn)[fi]?=some x:=⟨_,Kd (by rw[tY];exact hfi)⟩;obtain⟨e1,he1,rfl⟩:=zb hx1;have ec:=bc _ _ eb pb;refine⟨le,_,_,_,rfl,rfl,NQ.of ec,bD hx1,?_⟩;have ef:=bc _ _ (sb _ _ ea) pf;have k1:Os nn e1:=⟨zo,he1⟩;have m1:Pm d nn sn e1:=⟨hd,zo,k1⟩;have s1c:NJ H1 Hc:=fun x o e=>bc _ _ (sb _ _ (ba _ _ (s9 _ _ (s8 _ _ (b7 _ _ (s6 _ _ (b5 _ _ (s4 _ _ (b3 _ _ (s2 _ _ e) (Ya e))) (Ya e))) (Ya e)))) (Ya e))) (Ya e);refine⟨_,rfl,_,rfl,_,rfl,_,rfl,lf,d,nn,sn,e1,rfl,ef,m1,fun Hd sd=>?_⟩;refine⟨A4 d nn sn e1,lQ d nn sn e1,rfl,J4 (y0 m1) zd,?_,by rw[jM m1];exact pW m1,on k1,fun va He se YA=>?_⟩
   ·have:=i_ List.length (jM m1);rw[JC]at this;rw[this];exact J4 (y2 m1) zd
   have ZQ:=sd.trans se;have eE:=ZQ _ _ ec;refine⟨_,rfl,le,rfl,⟨_,NQ.of eE⟩,?_⟩;refine fk (K:=K) (a:=le) (xs:=BZ nn) (fun j σ H'=>Jk He [some (.ref l),some (.int (0+(i:Int))),some (.ref p),some (.int (d:Int)),some (.ref lf),some (.str (A3 sn)),some (.ref le),some (.str (S (kS e1))),some va] σ H') ⟨_,_,rfl,NJ.refl _⟩ (fun j σ H' _⟨_,_,_,s'⟩=>NQ.of (s' _ _ eE)) ?_ ?_
   ·rintro j x2 σ Hf hx2 ⟨w9,Xk,rfl,sf⟩;obtain⟨e2,he2,rfl⟩:=zb hx2;have k2:Os nn e2:=⟨zo,he2⟩;have m2:Pm d nn sn e2:=⟨hd,zo,k2⟩;refine⟨_,rfl,_,rfl,_,rfl,_,rfl,lf,d,nn,sn,e2,rfl,(ZQ.trans sf) _ _ ef,m2,fun Hg sg=>?_⟩;refine⟨A4 d nn sn e2,lQ d nn sn e2,rfl,J4 (y0 m2) zd,?_,by rw[jM m2];exact pW m2,on k2,fun vb Hh sh hTb=>?_⟩
    ·have:=i_ List.length (jM m2);rw[JC]at this;rw[this];exact J4 (y2 m2) zd
    have u:=(sf.trans sg).trans sh;refine⟨_,rfl,_,rfl,_,rfl,_,rfl,_,rfl,d,nn,e1,e2,rfl,k1,k2,?_⟩;refine⟨va,vb,d,nn,sn,e1,e2,rfl,⟨YA.same u,on k1⟩,⟨hTb,on k2⟩,k1,k2,fun Hi si=>⟨_,rfl,bJ ?_⟩⟩;exact⟨_,_,rfl,u.trans si⟩
   ·rintro σ Hf ⟨w9,Xk,rfl,sf⟩;exact⟨_,_,_,_,_,_,_,_,_,_,rfl,s1.trans (s1c.trans (ZQ.trans sf))⟩
  ·rintro σ H5 ⟨v1,v2,v3,v4,v5,v6,v7,v8,v9,Vf,rfl,s5⟩;exact q H5
def aL(K:ZF)(x:Str)(st:Stmt)(f:Ux):Prop:=
 PySem.W.nsIn K mainGlobals x=some (some (.ref f))/\∃fd:UC,N1 K x x st f fd
variable{f:Ux}
def EC{x:Str}{st:Stmt}{oc:Uw}{od an:Option Ux}{U7:Array (Option Uw)}{kV doc pm Lb ct:Uw}(a:PySem.W.nsIn K mainGlobals x=some (some (.ref f)))
  (l:K.lookup f=some ⟨oc,od,.func (PySem.W.fnOf x x (cL st) (cz st) (ah st) .none kV doc pm an Lb ct),U7⟩) (c:PySem.W.codeIn K Lb x=true) (k:PySem.W.keepIn K (.ref f)=true):aL K x st f:=⟨a,_,wv l c k⟩
variable{st:Stmt}
def GO{P:Uz}{w:UA}{base h:Heap}{x:Str}{k:Nat}{ps:UD}{sp:Sp}(X:K.In h)(G:h.Ns mainGlobals mg)(D:aL K x st f)
  (hb:∀(kV doc pm:Uw)(an:Option Ux)(Lb ct:Uw)(us:List Uw),us.length=ps.length->bindArgs (PySem.W.fnOf x x (cL st) (cz st) (ah st) .none kV doc pm an Lb ct) ⟨us,[]⟩=pure (ps.zip us))
  (ok:∀fd,N1 K x x st f fd->NN P w K mg base br k f fd ps sp):Fn P w K mg base x k ps sp:=by
 obtain⟨a,fd,F⟩:=D;exact⟨f,fd,JQ X G a,F.kp,F.binds hb,ok fd F⟩
structure jr(K:ZF)(x qual:Str)(st:Stmt)(f:Ux):Prop where
 fu:∃fd:UC,N1 K x qual st f fd
 fn:PySem.W.isFn K (.ref f)=true
def ED{K:ZF}{x qual:Str}{st:Stmt}{f:Ux}{oc:Uw}{od an:Option Ux}{U7:Array (Option Uw)}{kV doc pm Lb ct:Uw}
  (l:K.lookup f=some ⟨oc,od,.func (PySem.W.fnOf x qual (cL st) (cz st) (ah st) .none kV doc pm an Lb ct),U7⟩) (c:PySem.W.codeIn K Lb qual=true) (k:PySem.W.keepIn K (.ref f)=true) (n:PySem.W.isFn K (.ref f)=true):jr K x qual st f:=⟨⟨_,wv l c k⟩,n⟩
def cw{P:Uz}{w:UA}{mg:Str->Option Uw}{base:Heap}{Cc f:Ux}{x qual:Str}{k:Nat}{ps:UD}{sp:Sp}(a:PySem.W.findIn K (.ref Cc) x=some (some (.ref f)))(D:jr K x qual st f)
  (hb:∀(kV doc pm:Uw)(an:Option Ux)(Lb ct:Uw)(us:List Uw),us.length=ps.length->bindArgs (PySem.W.fnOf x qual (cL st) (cz st) (ah st) .none kV doc pm an Lb ct) ⟨us,[]⟩=pure (ps.zip us))
  (ok:∀fd,N1 K x qual st f fd->NN P w K mg base br k f fd ps sp):bB P w K mg base Cc x k ps sp:=by
 obtain⟨⟨fd,F⟩,n⟩:=D;exact⟨f,fd,⟨a,n,F.kp⟩,ok fd F,F.binds hb⟩
def oz{P:Uz}{w:UA}{mg:Str->Option Uw}{base:Heap}{x qual:Str}{ps:UD}{sp:Sp}(D:jr K x qual st f)
  (hb:∀(kV doc pm:Uw)(an:Option Ux)(Lb ct:Uw)(us:List Uw),us.length=ps.length->bindArgs (PySem.W.fnOf x qual (cL st) (cz st) (ah st) .none kV doc pm an Lb ct) ⟨us,[]⟩=pure (ps.zip us))
  (ok:∀fd,N1 K x qual st f fd->NN P w K mg base br 1 f fd ps sp):∃fd,NN P w K mg base br 1 f fd ps sp/\N7 K fd ps []:=by
 obtain⟨⟨fd,F⟩,n⟩:=D;exact⟨fd,ok fd F,F.binds hb⟩
def GQ(K:ZF)(tk:Tok)(f:Ux):Prop:=
 PySem.W.nsIn K mainGlobals "state_of"=some (some (.ref f))/\∃fd:UC,O8 K "state_of" "state_of" dk (DA tk) f fd
def A6{f d:Ux}{tk:Tok}{oc:Uw}{od an:Option Ux}{U7:Array (Option Uw)}{kV doc pm Lb ct:Uw}{n:Nat}{oc2:Uw}{od2:Option Ux}{osl2:Array (Option Uw)}(a:PySem.W.nsIn K mainGlobals "state_of"=some (some (.ref f)))
  (l:K.lookup f=some ⟨oc,od,.func (PySem.W.fnOf "state_of" "state_of" (cL dk) (cz dk) (ah dk) (.ref d) kV doc pm an Lb ct),U7⟩) (e:K.lookup d=some ⟨oc2,od2,.seq #[.int 0 tk,.none,.none,.none,.none] n,osl2⟩) (c:PySem.W.codeIn K Lb "state_of"=true) (k:PySem.W.keepIn K (.ref f)=true):GQ K tk f:=
 ⟨a,_,⟨⟨oc,od,kV,doc,pm,an,Lb,ct,U7,d,_,n,rfl,l,c,e,rfl⟩,k⟩⟩
def Ov(K:ZF)(c:Ux):UD->Prop
 |[]=>True
 |f::r=>N3 K c f/\Ov K c r
variable{c:Ux}
def Ov.get:∀{l:UD},Ov K c l->∀f∈l,N3 K c f
 |[],_,f,hf=>absurd hf (by simp)
 |g::r,h,f,hf=>by
  rcases JT.mp hf with rfl|hf
  ·exact h.1
  ·exact Ov.get h.2 f hf
structure CK(K:ZF)(n:Str)(c i:Ux)(fl:UD):Prop where
 ns:PySem.W.nsIn K mainGlobals n=some (some (.ref c))
 cls:Px K c
 na:Ov K c fl
 mk_:Mk K c i
def ze{n:Str}{c i:Ux}{fl:UD}(ns:PySem.W.nsIn K mainGlobals n=some (some (.ref c)))(g1:PySem.W.plainGet K c Str.empty=true)(g2:PySem.W.hasDictIn K c=true)(g3:PySem.W.plainOver K c=true)
  (g4:PySem.W.findIn K (.ref c) "__setattr__"=some (some (.builtin "object.__setattr__"))) (m1:PySem.W.makesIn K c=true) (m2:PySem.W.findIn K (.ref c) "__init__"=some (some (.ref i))) (m3:PySem.W.isFn K (.ref i)=true) (m4:PySem.W.keepIn K (.ref c)=true) (na:Ov K c fl):CK K n c i fl:=
 ⟨ns,⟨g1,g2,g3,g4⟩,na,⟨m1,m2,m3,m4⟩⟩
variable{a b d:Str}
def Jw(x:PySem.W.findIn K (.ref c) a=some none)(y:PySem.W.findIn K (.ref c) b=some none)(z:PySem.W.findIn K (.ref c) d=some none):Ov K c [a,b,d]:=⟨x,y,z,trivial⟩
def Jx{a b d e f g h i:Str}(x:PySem.W.findIn K (.ref c) a=some none)(y:PySem.W.findIn K (.ref c) b=some none)(z:PySem.W.findIn K (.ref c) d=some none)(u:PySem.W.findIn K (.ref c) e=some none)(x1:PySem.W.findIn K (.ref c) f=some none)(y1:PySem.W.findIn K (.ref c) g=some none)(z1:PySem.W.findIn K (.ref c) h=some none)(u1:PySem.W.findIn K (.ref c) i=some none):Ov K c [a,b,d,e,f,g,h,i]:=⟨x,y,z,u,x1,y1,z1,u1,trivial⟩
def Jy{a b d e f g h:Str}(x:PySem.W.findIn K (.ref c) a=some none)(y:PySem.W.findIn K (.ref c) b=some none)(z:PySem.W.findIn K (.ref c) d=some none)(u:PySem.W.findIn K (.ref c) e=some none)(x1:PySem.W.findIn K (.ref c) f=some none)(y1:PySem.W.findIn K (.ref c) g=some none)(z1:PySem.W.findIn K (.ref c) h=some none):Ov K c [a,b,d,e,f,g,h]:=⟨x,y,z,u,x1,y1,z1,trivial⟩
def cU:∀(zs:UD)(ts:List Tok),ts.length=zs.length->NV (zs.map V.str) ((zs.zip ts).map fun p=>Value.str p.1 p.2)
 |[],_,_=>.nil
 |z::r,[],h=>by cases h
 |z::r,t::u,h=>.cons ⟨t,rfl⟩ (cU r u (by simpa using h))
def EE{w:UA}{K:ZF}{a f1 f2 f3 f4 f5 f6 f7 f8 f9:Ux}{t1 t2 t3 t4 t5 t6 t7 t8 t9:Tok}{ep:Nat}
  (h:K.lookup a=some {cls:=.type "dict",data:=.dict #[⟨PyData.keyHash w.params "+",.str "+" t1,.ref f1⟩,⟨PyData.keyHash w.params "-",.str "-" t2,.ref f2⟩,⟨PyData.keyHash w.params "&",.str "&" t3,.ref f3⟩,⟨PyData.keyHash w.params "|",.str "|" t4,.ref f4⟩,⟨PyData.keyHash w.params "^",.str "^" t5,.ref f5⟩,
   ⟨PyData.keyHash w.params "<<",.str "<<" t6,.ref f6⟩,⟨PyData.keyHash w.params ">>",.str ">>" t7,.ref f7⟩,⟨PyData.keyHash w.params "<",.str "<" t8,.ref f8⟩,⟨PyData.keyHash w.params "=",.str "=" t9,.ref f9⟩] ep}) :
  dc w K a [("+",.ref f1),("-",.ref f2),("&",.ref f3),("|",.ref f4),("^",.ref f5),("<<",.ref f6),(">>",.ref f7),("<",.ref f8),("=",.ref f9)]:=
 ⟨_,ep,h,.cons ⟨rfl,⟨_,rfl⟩,rfl⟩ (.cons ⟨rfl,⟨_,rfl⟩,rfl⟩ (.cons ⟨rfl,⟨_,rfl⟩,rfl⟩ (.cons ⟨rfl,⟨_,rfl⟩,rfl⟩ (.cons ⟨rfl,⟨_,rfl⟩,rfl⟩ (.cons ⟨rfl,⟨_,rfl⟩,rfl⟩ (.cons ⟨rfl,⟨_,rfl⟩,rfl⟩ (.cons ⟨rfl,⟨_,rfl⟩,rfl⟩ (.cons ⟨rfl,⟨_,rfl⟩,rfl⟩ .nil))))))))⟩
def A7{a f1 f2:Ux}{t1 t2:Tok}{ep:Nat}(h:K.lookup a=some {cls:=.type "dict",data:=.dict #[⟨PyData.keyHash w.params S_,.str S_ t1,.ref f1⟩,⟨PyData.keyHash w.params Ta,.str Ta t2,.ref f2⟩] ep}):dc w K a [(S_,.ref f1),(Ta,.ref f2)]:=⟨_,ep,h,.cons ⟨rfl,⟨_,rfl⟩,rfl⟩ (.cons ⟨rfl,⟨_,rfl⟩,rfl⟩ .nil)⟩
def A8{r:List (Str×V)}:List.lookup ("+":Str) (("+",x)::r)=some x:=by rw[J6,show(("+":Str)=="+")=true by decide +kernel]
def gx{x:Str}{j k:Nat}{ps:UD}{sp:Sp}(h:Fn P w K mg base x j ps sp)(hk:j<=k):Fn P w K mg base x k ps sp:=by obtain⟨f,fd,a,b,c,d⟩:=h;exact ⟨f,fd,a,b,c,d.mono hk⟩
def oA{a:Ux}{t1 t2 t3 t4 t5 t6 t7 t8 t9 t10 t11 t12 t13 t14 t15 t16 t17 t18 t19 t20 t21 t22:Tok}{n:Nat}(h:K.lookup a=some {cls:=.type "tuple",data:=.seq #[.str S8 t1,.str S1 t2,.str S9 t3,.str SZ t4,.str S5 t5,.str TQ t6,.str S0 t7,.str SU t8,.str S2 t9,.str "number" t10,.str Tn t11,.str "set" t12,.str Ut t13,.str Uk t14,.str T9 t15,.str To t16,.str Uh t17,.str S_ t18,.str Ta t19,.str Tp t20,.str S3 t21,.str "bell" t22] n}):∀H,NL K H a (aJ ON):=fun H=>
 .inr ⟨_,_,n,h,rfl,rfl,N0,cU [S8,S1,S9,SZ,S5,TQ,S0,SU,S2,"number",Tn,"set",Ut,Uk,T9,To,Uh,S_,Ta,Tp,S3,"bell"] [t1,t2,t3,t4,t5,t6,t7,t8,t9,t10,t11,t12,t13,t14,t15,t16,t17,t18,t19,t20,t21,t22] rfl⟩
def zf{a:Ux}{t1 t2 t3 t4:Tok}{n:Nat}(h:K.lookup a=some {cls:=.type "tuple",data:=.seq #[.str SU t1,.str S2 t2,.str "number" t3,.str Tn t4] n}):∀H,NL K H a (aJ km):=fun H=>
 .inr ⟨_,_,n,h,rfl,rfl,N0,cU [SU,S2,"number",Tn] [t1,t2,t3,t4] rfl⟩
def A9{a:Ux}{t1 t2 t3 t4 t5 t6:Tok}{n:Nat}(h:K.lookup a=some {cls:=.type "tuple",data:=.seq #[.str To t1,.str Uh t2,.str S_ t3,.str Ta t4,.str Tp t5,.str S3 t6] n}):∀H,NL K H a (aJ [To,Uh,S_,Ta,Tp,S3]):=fun H=>
 .inr ⟨_,_,n,h,rfl,rfl,N0,cU [To,Uh,S_,Ta,Tp,S3] [t1,t2,t3,t4,t5,t6] rfl⟩
def lh{a:Ux}{t1 t2:Tok}{n:Nat}(h:K.lookup a=some {cls:=.type "tuple",data:=.seq #[.str T0 t1,.str T7 t2] n}):∀H,NL K H a (aJ [T0,T7]):=fun H=>
 .inr ⟨_,_,n,h,rfl,rfl,N0,cU [T0,T7] [t1,t2] rfl⟩
def js{a:Ux}{t1 t2:Tok}{n:Nat}(h:K.lookup a=some {cls:=.type "tuple",data:=.seq #[.str "<<" t1,.str ">>" t2] n}):∀H,NL K H a ([.str "<<",.str ">>"]):=fun H=>
 .inr ⟨_,_,n,h,rfl,rfl,N0,cU ["<<",">>"] [t1,t2] rfl⟩
def oB{a:Ux}{t1 t2 t3:Tok}{n:Nat}(h:K.lookup a=some {cls:=.type "tuple",data:=.seq #[.str "number" t1,.str TZ t2,.str SU t3] n}):∀H,NL K H a (aJ G1):=fun H=>
 .inr ⟨_,_,n,h,rfl,rfl,N0,cU ["number",TZ,SU] [t1,t2,t3] rfl⟩
def sr{a:Ux}{t1 t2 t3 t4:Tok}{n:Nat}(h:K.lookup a=some {cls:=.type "tuple",data:=.seq #[.str "number" t1,.str TZ t2,.str SU t3,.str S2 t4] n}):∀H,NL K H a (aJ ES):=fun H=>
 .inr ⟨_,_,n,h,rfl,rfl,N0,cU ["number",TZ,SU,S2] [t1,t2,t3,t4] rfl⟩
def zg{a:Ux}{t1 t2:Tok}{n:Nat}(h:K.lookup a=some {cls:=.type "tuple",data:=.seq #[.str S3 t1,.str T0 t2] n}):∀H,NL K H a [.str S3,.str T0]:=fun H=>
 .inr ⟨_,_,n,h,rfl,rfl,N0,.cons ⟨_,rfl⟩ (.cons ⟨_,rfl⟩ .nil)⟩
def zh{a:Ux}{t1 t2:Tok}{n:Nat}(h:K.lookup a=some {cls:=.type "tuple",data:=.seq #[.str S3 t1,.str T7 t2] n}):∀H,NL K H a [.str S3,.str T7]:=fun H=>
 .inr ⟨_,_,n,h,rfl,rfl,N0,.cons ⟨_,rfl⟩ (.cons ⟨_,rfl⟩ .nil)⟩
def u0{P:List Uw->Prop}(h:P []):∀us:List Uw,us.length=0->P us
 |[],_=>h
def u1{P:List Uw->Prop}(h:∀a,P [a]):∀us:List Uw,us.length=1->P us
 |[_],_=>h _
def u2{P:List Uw->Prop}(h:∀a b,P [a,b]):∀us:List Uw,us.length=2->P us
 |[_,_],_=>h _ _
def u3{P:List Uw->Prop}(h:∀a b c,P [a,b,c]):∀us:List Uw,us.length=3->P us
 |[_,_,_],_=>h _ _ _
def u4{P:List Uw->Prop}(h:∀a b c d,P [a,b,c,d]):∀us:List Uw,us.length=4->P us
 |[_,_,_,_],_=>h _ _ _ _
def u5{P:List Uw->Prop}(h:∀a b c d e,P [a,b,c,d,e]):∀us:List Uw,us.length=5->P us
 |[_,_,_,_,_],_=>h _ _ _ _ _
def u6{P:List Uw->Prop}(h:∀a b c d e f,P [a,b,c,d,e,f]):∀us:List Uw,us.length=6->P us
 |[_,_,_,_,_,_],_=>h _ _ _ _ _ _
def u8{P:List Uw->Prop}(h:∀a b c d e f g h,P [a,b,c,d,e,f,g,h]):∀us:List Uw,us.length=8->P us
 |[_,_,_,_,_,_,_,_],_=>h _ _ _ _ _ _ _ _
def EI{l:PySem.W.OpenLaw}{w:UA}{h:Heap}{fa f0 f1 f2 f3 f4 f5 f6 f7 f8 f9 Zt f11 f12 f13 f14 f15 f16 f17 f18 f19 f20 f21 f22 f23 f24 f25 f26 f27 f28 f29 f30 f31 f32 f33 f34 f35 f36 f37 f38 f39 f40 f41 f42 f43 f44 f45 f46 f47 f48 f49 f50 f51 f52 f53 f54 f55 f56 f57 f58 f59 f60 f61 f62 f63 f64 f65 f66 f67 f68 f69 f70 f71 f72 f73 f74 f75 f76 f77 f78 f79 f80 f81 f82 f83 f84 f85 f86 f87 f88 f89 f90 f91 f92 f93 f94 f95 f96 f97 cR iR cT iT cS iS cW iW MC MJ MD MF MG ME Mz Mv Mt ML Ms Mu MA MH MI My Mx Mw LD LJ LB LC LA Lz LI aO e2 e3 e4 e5 e6 e7 e8 e9 fSO aP aPC aPB:Ux}{Mj Mf Mo Ml Mi Mm Mh Mg Mn Md Mr Mb Ma Me Mc Mp Mq:Tok}(X:K.In h)(G:h.Ns mainGlobals mg)(hfa:mg "law"=some (.ref fa))
  (d0:aL K "number_of" fX f0)
  (d1:aL K "is_whole" qA f1)
  (d2:aL K "is_within" mw f2)
  (d3:aL K "is_name" lJ f3)
  (d4:aL K "ops_told" CV f4)
  (d5:aL K "read_form" iJ f5)
  (d6:aL K "read_bounded" eV f6)
  (d7:aL K "read_names" gG f7)
  (d8:aL K "read_kind" iK f8)
  (d9:aL K "read_fields" fE f9)
  (d10:aL K "read_field" gH Zt)
  (ZA:aL K "read_body" iL f11)
  (Zz:aL K "read_choice" fF f12)
  (d13:aL K "read_test" iM f13)
  (d14:aL K "read_leaf" fY f14)
  (d15:aL K "read_set" j8 f15)
  (d16:aL K "read_end" j9 f16)
  (Zy:aL K "read_expression" iN f17)
  (Zx:aL K "read_cell" iO f18)
  (Zw:aL K "read_two" ka f19)
  (d20:aL K "table_of_form" eW f20)
  (d21:aL K "add_name" kc f21)
  (d22:aL K "need_known" gI f22)
  (d23:aL K "kinds_named" fG f23)
  (d24:aL K "names_with_fields" gJ f24)
  (YH:aL K "deed_of" jz f25)
  (d26:aL K "test_of" my f26)
  (d27:aL K "set_of" qB f27)
  (d28:aL K "end_of" qC f28)
  (YG:aL K "expression_of" mz f29)
  (d30:aL K "tokens_of" mB f30)
  (d31:aL K "sign_at" wO f31)
  (d32:aL K "run_at" CY f32)
  (d33:aL K "read_table" gK f33)
  (d34:aL K "_law_cell" wP f34)
  (d35:aL K "_law_stream" mC f35)
  (d36:aL K "_law_take" wQ f36)
  (d37:aL K "is_word" xS f37)
  (d38:aL K "truth_of" qD f38)
  (d39:aL K "is_row" mD f39)
  (d40:aL K "is_operand" gL f40)
  (d41:aL K "highest_word" wR f41)
  (d42:aL K "is_list_of" mE f42)
  (d43:aL K "is_list_to" jA f43)
  (d44:aL K "need_row" kd f44)
  (d45:aL K "rest_of" yg f45)
  (d46:aL K "added" rR f46)
  (d47:aL K "reckoned" yF f47)
  (d48:aL K "leaves_of" nB f48)
  (d49:aL K "leaf_of" nO f49)
  (d50:aL K "word_of" nP f50)
  (d51:aL K "give_sets" gm f51)
  (d52:aL K "set_reckoned" rQ f52)
  (d53:aL K "is_plain" il f53)
  (d54:aL K "is_plain_set" rE f54)
  (d55:aL K "is_sum" rD f55)
  (d56:aL K "chosen_of" jG f56)
  (d57:aL K "numbers_for" nE f57)
  (d58:aL K "selected" i4 f58)
  (d59:aL K "decided" kB f59)
  (d60:aL K "form_of" yf f60)
  (d61:aL K "with_times" kC f61)
  (d62:aL K "atom_of" yd f62)
  (d63:aL K "address_told" ye f63)
  (d64:aL K "effect_of" rC f64)
  (d65:aL K "last_given" yh f65)
  (d66:aL K "bit_of" DJ f66)
  (d67:aL K "cell_given" rq f67)
  (d68:aL K "same_shape" gR f68)
  (d69:aL K "shape_of" io f69)
  (d70:aL K "need_single" fR f70)
  (d71:aL K "row_done" kM f71)
  (d72:aL K "row_given" ja f72)
  (d73:aL K "end_given" jb f73)
  (d74:aL K "go_back" nY f74)
  (d75:aL K "parted_by" dz f75)
  (d76:aL K "free_things" kN f76)
  (d77:aL K "place_words" nZ f77)
  (d78:aL K "mark_bits" rX f78)
  (d79:aL K "picks_of" jd f79)
  (d80:aL K "operands_of" oa f80)
  (d81:aL K "cells_tried" iq f81)
  (d82:aL K "is_headed" nJ f82)
  (d83:aL K "alike" sj f83)
  (d84:aL K "need_plain" nI f84)
  (d85:aL K "choices_of" im f85)
  (d86:aL K "come_to" yw f86)
  (d87:aL K "case_of" oi f87)
  (d88:aL K "alike_holds" jH f88)
  (d89:aL K "entry_holds" nK f89)
  (Xe:aL K "is_just" tO f90)
  (d91:aL K "case_holds" rN f91)
  (d92:aL K "leaf_holds" rM f92)
  (d93:aL K "_law_ends" iu f93)
  (d94:aL K "_law_text" jN f94)
  (d95:aL K "_law_same" oo f95)
  (d96:aL K "_law_right" kQ f96)
  (d97:aL K "law" lT f97)
  (CR:CK K "Reader" cR iR [Tx,Uj,"may_end"]) (IR:jr K "__init__" "Reader.__init__" qT iR)
  (CT:CK K "Table" cT iT [SV,S1,S9,SZ,S5,TQ,TM,Tf]) (IT:jr K "__init__" "Table.__init__" mW iT)
  (CS:CK K "State" cS iS [Ui,SZ,S5,S1,Ud,S8,S3]) (IS:jr K "__init__" "State.__init__" rj iS)
  (CW:CK K "Way" cW iW [SQ,Te,Tk]) (IW:jr K "__init__" "Way.__init__" rS iW)
  (LY:PySem.W.findIn K (.ref cR) "look"=some (some (.ref MC))) (Lp:jr K "look" "Reader.look" wV MC)
  (L8:PySem.W.findIn K (.ref cR) "take"=some (some (.ref MJ))) (Lx:jr K "take" "Reader.take" HJ MJ)
  (LZ:PySem.W.findIn K (.ref cR) "need"=some (some (.ref MD))) (Lq:jr K "need" "Reader.need" wW MD)
  (L4:PySem.W.findIn K (.ref cR) "need_name"=some (some (.ref MF))) (Ls:jr K "need_name" "Reader.need_name" iQ MF)
  (L5:PySem.W.findIn K (.ref cR) "need_number"=some (some (.ref MG))) (Lu:jr K "need_number" "Reader.need_number" fH MG)
  (L0:PySem.W.findIn K (.ref cR) "need_end"=some (some (.ref ME))) (Lr:jr K "need_end" "Reader.need_end" kh ME)
  (LW:PySem.W.findIn K (.ref cT) "kind_at"=some (some (.ref Mz))) (Ln:jr K "kind_at" "Table.kind_at" m7 Mz)
  (LN:PySem.W.findIn K (.ref cT) "fields_of"=some (some (.ref Mv))) (Lj:jr K "fields_of" "Table.fields_of" iZ Mv)
  (LL:PySem.W.findIn K (.ref cT) TL=some (some (.ref Mt))) (Lh:jr K TL "Table.deed" xN Mt)
  (L9:PySem.W.findIn K (.ref cS) TV=some (some (.ref ML))) (Ly:jr K TV "State.told" nM ML)
  (LK:PySem.W.findIn K (.ref cS) "copied"=some (some (.ref Ms))) (Lg:jr K "copied" "State.copied" nN Ms)
  (LM:PySem.W.findIn K (.ref cS) "end_with"=some (some (.ref Mu))) (Li:jr K "end_with" "State.end_with" kI Mu)
  (LX:PySem.W.findIn K (.ref cS) "lay_on_pile"=some (some (.ref MA))) (Lo:jr K "lay_on_pile" "State.lay_on_pile" D7 MA)
  (L6:PySem.W.findIn K (.ref cW) "number_told"=some (some (.ref MH))) (Lv:jr K "number_told" "Way.number_told" kK MH)
  (L7:PySem.W.findIn K (.ref cW) "place_word"=some (some (.ref MI))) (Lw:jr K "place_word" "Way.place_word" nQ MI)
  (LU:PySem.W.findIn K (.ref cW) "give_place"=some (some (.ref My))) (Lm:jr K "give_place" "Way.give_place" nR My)
  (LS:PySem.W.findIn K (.ref cW) "give_mark"=some (some (.ref Mx))) (Ll:jr K "give_mark" "Way.give_mark" nS Mx)
  (LQ:PySem.W.findIn K (.ref cW) "give_cell"=some (some (.ref Mw))) (Lk:jr K "give_cell" "Way.give_cell" nU Mw)
  (MZ:PySem.W.nsIn K mainGlobals "MOST_FIGURES"=some (some (.int 9 Mj)))
  (MV:PySem.W.nsIn K mainGlobals "LONGEST_NAME"=some (some (.int 8 Mf)))
  (M7:PySem.W.nsIn K mainGlobals "MOST_TOKENS"=some (some (.int 1500 Mo)))
  (M0:PySem.W.nsIn K mainGlobals "MOST_KINDS"=some (some (.int 8 Ml)))
  (MY:PySem.W.nsIn K mainGlobals "MOST_FIELDS"=some (some (.int 3 Mi)))
  (M5:PySem.W.nsIn K mainGlobals "MOST_SETS"=some (some (.int 4 Mm)))
  (MX:PySem.W.nsIn K mainGlobals "MOST_CHOICES"=some (some (.int 3 Mh)))
  (MW:PySem.W.nsIn K mainGlobals "MOST_BRACKETS"=some (some (.int 3 Mg)))
  (M6:PySem.W.nsIn K mainGlobals "MOST_SIGNS"=some (some (.int 20000 Mn)))
  (MT:PySem.W.nsIn K mainGlobals "HIGHEST_ROW"=some (some (.int 999 Md)))
  (Nf:PySem.W.nsIn K mainGlobals "WORDS_TRIED"=some (some (.int 4 Mr)))
  (MR:PySem.W.nsIn K mainGlobals "FIRST_ROW_TRIED"=some (some (.int 10 Mb)))
  (MQ:PySem.W.nsIn K mainGlobals "FIGURES"=some (some (.str "0123456789" Ma)))
  (MU:PySem.W.nsIn K mainGlobals "LETTERS"=some (some (.str "abcdefghijklmnopqrstuvwxyz" Me)))
  (MS:PySem.W.nsIn K mainGlobals "GAPS"=some (some (.str " \n" Mc)))
  (Nc:PySem.W.nsIn K mainGlobals "SINGLE_SIGNS"=some (some (.str "(){}[],;+-&|^<=" Mp)))
  (Na:PySem.W.nsIn K mainGlobals "OWN_WORDS"=some (some (.ref LD))) (Nk:∀H,NL K H LD (aJ ON))
  (Nd:PySem.W.nsIn K mainGlobals "SORTS"=some (some (.ref LJ))) (No:∀H,NL K H LJ (aJ km))
  (MO:PySem.W.nsIn K mainGlobals "ENDS"=some (some (.ref LB))) (Ni:∀H,NL K H LB (aJ [To,Uh,S_,Ta,Tp,S3]))
  (M9:PySem.W.nsIn K mainGlobals "OWN_FAULTS"=some (some (.ref LC))) (Nj:∀H,NL K H LC (aJ [T0,T7]))
  (MN:PySem.W.nsIn K mainGlobals "DOUBLE_SIGNS"=some (some (.ref LA))) (Nh:∀H,NL K H LA ([.str "<<",.str ">>"]))
  (MM:PySem.W.nsIn K mainGlobals "ADDRESSES"=some (some (.ref Lz))) (Ng:∀H,NL K H Lz (aJ G1))
  (Nb:PySem.W.nsIn K mainGlobals "SINGLES"=some (some (.ref LI))) (Nn:∀H,NL K H LI (aJ ES))
  (M8:PySem.W.nsIn K mainGlobals "OPS"=some (some (.ref aO))) (dO:dc w K aO [("+",.ref f46),("-",.ref e2),("&",.ref e3),("|",.ref e4),("^",.ref e5),("<<",.ref e6),(">>",.ref e7),("<",.ref e8),("=",.ref e9)]) (lo:(aO==sysModules)=false)
  (MP:PySem.W.nsIn K mainGlobals "ENDS_WITHOUT_PILE"=some (some (.ref aP))) (dP:dc w K aP [(S_,.ref aPC),(Ta,.ref aPB)]) (loP:(aP==sysModules)=false) (Nm:∀H,NL K H aPC [.str S3,.str T0]) (Nl:∀H,NL K H aPB [.str S3,.str T7])
  (dSO:GQ K Mq fSO)
  (Nw:PySem.W.nsIn K mainGlobals "len"=some none)
  (Nu:PySem.W.nsIn K mainGlobals "int"=some none)
  (Nz:PySem.W.nsIn K mainGlobals "max"=some none)
  (NB:PySem.W.nsIn K mainGlobals "min"=some none)
  (NC:PySem.W.nsIn K mainGlobals "range"=some none)
  (Nv:PySem.W.nsIn K mainGlobals "isinstance"=some none)
  (Ny:PySem.W.nsIn K mainGlobals "list"=some none)
  (NE:PySem.W.nsIn K mainGlobals "str"=some none)
  (Nq:PySem.W.nsIn K mainGlobals "bool"=some none)
  (NG:PySem.W.nsIn K mainGlobals "tuple"=some none)
  (Np:PySem.W.nsIn K mainGlobals "all"=some none)
  (Nr:PySem.W.nsIn K mainGlobals "dict"=some none)
  (Nt:PySem.W.nsIn K mainGlobals "enumerate"=some none)
  (NH:PySem.W.nsIn K mainGlobals "zip"=some none)
  (ND:PySem.W.nsIn K mainGlobals "sorted"=some none) :
  ∃fd:UC,(∀(s:Uy)(v:Uw),BindsTo s fd ⟨[v],[]⟩ [(Tq,v)])/\∀base:Heap,K.In base->base.Ns mainGlobals mg->NN l.prog w K mg base br 28 fa fd [Tq] (oy K):=by
 have B:Bl mg:=⟨J3 X G Nw,J3 X G Nu,J3 X G Nz,J3 X G NB,J3 X G NC,J3 X G Nv,J3 X G Ny,J3 X G NE,J3 X G Nq,J3 X G NG,J3 X G Np⟩;have B3:BE mg:=⟨J3 X G Nr,J3 X G Nt⟩;have Z:qP K mg LJ LB LC Mi Mm Mh Ml:=⟨(JQ X G Nd),No,(JQ X G MO),Ni,(JQ X G M9),Nj,(JQ X G MY),(JQ X G M5),(JQ X G MX),(JQ X G M0)⟩;have CN:C6 K mg LD Me Mf:=⟨(JQ X G Na),Nk,(JQ X G MU),(JQ X G MV)⟩;have CT2:z4 K mg LA Mc Mp:=⟨(JQ X G MS),(JQ X G Nc),(JQ X G MN),Nh,B.len⟩;have ZX:ZE mg Mg:=⟨(JQ X G MW)⟩;have RC:Rc K cR:=⟨CR.cls,CR.na.1,CR.na.2.1,CR.na.2.2.1⟩;have TC:Tc K cT:=⟨CT.cls,CT.na.get⟩;have SC:Sc K cS:=⟨CS.cls,CS.na.1,CS.na.2.1,CS.na.2.2.1,CS.na.2.2.2.1,CS.na.2.2.2.2.1,CS.na.2.2.2.2.2.1,CS.na.2.2.2.2.2.2.1⟩;have WC:Wc K cW:=⟨CW.cls,CW.na.1,CW.na.2.1,CW.na.2.2.1⟩;have B4:G0 mg:=⟨J3 X G NH⟩;have ZH:Zh mg Md:=⟨(JQ X G MT)⟩;obtain⟨a14,fd,F⟩:=d97;have e:=hfa.symm.trans (JQ X G a14);cases e;obtain⟨oc,od,kV,doc,pm,an,Lb,ct,U7,rfl,lk,U8⟩:=id F.ex;refine⟨PySem.W.fnOf "law" "law" (cL lT) (cz lT) (ah lT) .none kV doc pm an Lb ct,fun s v=>.of_eq rfl,fun base _ _=>?_⟩;have f0 {x:Str} {st:Stmt} {f:Ux} {k:Nat} {ps:UD} {sp:Sp}:=GO (P:=l.prog) (w:=w) (base:=base) (x:=x) (st:=st) (f:=f) (k:=k) (ps:=ps) (sp:=sp) X G;have WH:=f0 d1 (fun _ _ _ _ _ _=>by exact u1 fun _=>rfl) (fun fd F=>wY F B);have WI:=f0 d2 (fun _ _ _ _ _ _=>by exact u3 fun _ _ _=>rfl) (fun fd F=>uJ F WH);have NM:=f0 d3 (fun _ _ _ _ _ _=>by exact u1 fun _=>rfl) (fun fd F=>zY F B CN);have ZC:=f0 d3 (fun _ _ _ _ _ _=>by exact u1 fun _=>rfl) (fun fd F=>xi F B CN);have NU:=f0 d0 (fun _ _ _ _ _ _=>by exact u1 fun _=>rfl) (fun fd F=>pi F B (JQ X G MQ) (JQ X G MZ));have RM:Rm l.prog w K mg base cR:=⟨RC,(cw (P:=l.prog) (w:=w) (mg:=mg) (base:=base) LY Lp (fun _ _ _ _ _ _=>by exact u1 fun _=>rfl) (fun fd F=>zU F RC)),(cw (P:=l.prog) (w:=w) (mg:=mg) (base:=base) L8 Lx (fun _ _ _ _ _ _=>by exact u1 fun _=>rfl) (fun fd F=>FB F RC))⟩;have U0:pX l.prog w K mg base cR:=⟨RM,(cw (P:=l.prog) (w:=w) (mg:=mg) (base:=base) LZ Lq (fun _ _ _ _ _ _=>by exact u2 fun _ _=>rfl) (fun fd F=>zV F RM)),(cw (P:=l.prog) (w:=w) (mg:=mg) (base:=base) L4 Ls (fun _ _ _ _ _ _=>by exact u1 fun _=>rfl) (fun fd F=>o9 F RM NM)),(cw (P:=l.prog) (w:=w) (mg:=mg) (base:=base) L5 Lu (fun _ _ _ _ _ _=>by exact u3 fun _ _ _=>rfl) (fun fd F=>k7 F RM NU WI)),(cw (P:=l.prog) (w:=w) (mg:=mg) (base:=base) L0 Lr (fun _ _ _ _ _ _=>by exact u1 fun _=>rfl) (fun fd F=>qJ F RM B))⟩;obtain⟨fdR,INR,bIR⟩:=oz (P:=l.prog) (w:=w) (mg:=mg) (base:=base) IR (fun _ _ _ _ _ _=>by exact u2 fun _ _=>rfl) (fun fd F=>xA F RC B (JQ X G M7));obtain⟨fdT,INT,bIT⟩:=oz (P:=l.prog) (w:=w) (mg:=mg) (base:=base) IT (fun _ _ _ _ _ _=>by exact u8 fun _ _ _ _ _ _ _ _=>rfl) (fun fd F=>xH F TC B);have BO:=f0 d6 (fun _ _ _ _ _ _=>by exact u4 fun _ _ _ _=>rfl) (fun fd F=>qK F U0);have NA:=f0 d7 (fun _ _ _ _ _ _=>by exact u4 fun _ _ _ _=>rfl) (fun fd F=>w6 F U0 B);have FL:=f0 d10 (fun _ _ _ _ _ _=>by exact u1 fun _=>rfl) (fun fd F=>xm F U0 Z);have ER:=f0 d16 (fun _ _ _ _ _ _=>by exact u1 fun _=>rfl) (fun fd F=>Ag F U0 Z);have FS:=f0 d9 (fun _ _ _ _ _ _=>by exact u1 fun _=>rfl) (fun fd F=>uP F U0 Z B FL);have TE:=f0 d13 (fun _ _ _ _ _ _=>by exact u1 fun _=>rfl) (fun fd F=>xw F U0);have OP:=f0 d4 (fun _ _ _ _ _ _=>by exact u0 rfl) (fun fd F=>Di F B (JQ X G M8) dO rfl lo);have CE0:Fn l.prog w K mg base "read_cell" 3 [SY,SV,Tl] (mJ cR 0):=f0 Zx (fun _ _ _ _ _ _=>by exact u3 fun _ _ _=>rfl) (fun fd F=>c8);have TW0:Fn l.prog w K mg base "read_two" 3 [SY,SV,Tl] (qO cR 0):=f0 Zw (fun _ _ _ _ _ _=>by exact u3 fun _ _ _=>rfl) (fun fd F=>c8);have EX0:=f0 Zy (fun _ _ _ _ _ _=>by exact u3 fun _ _ _=>rfl) (fun fd F=>jB F U0 ZX ZC CE0 TW0 zd);have CE1:=f0 Zx (fun _ _ _ _ _ _=>by exact u3 fun _ _ _=>rfl) (fun fd F=>kl F U0 EX0 zd);have TW1:=f0 Zw (fun _ _ _ _ _ _=>by exact u3 fun _ _ _=>rfl) (fun fd F=>mL F U0 EX0 OP zd);have EX1:=f0 Zy (fun _ _ _ _ _ _=>by exact u3 fun _ _ _=>rfl) (fun fd F=>jB F U0 ZX ZC CE1 TW1 zd);have CE2:=f0 Zx (fun _ _ _ _ _ _=>by exact u3 fun _ _ _=>rfl) (fun fd F=>kl F U0 EX1 zd);have TW2:=f0 Zw (fun _ _ _ _ _ _=>by exact u3 fun _ _ _=>rfl) (fun fd F=>mL F U0 EX1 OP zd);have EX2:=f0 Zy (fun _ _ _ _ _ _=>by exact u3 fun _ _ _=>rfl) (fun fd F=>jB F U0 ZX ZC CE2 TW2 zd);have CE3:=f0 Zx (fun _ _ _ _ _ _=>by exact u3 fun _ _ _=>rfl) (fun fd F=>kl F U0 EX2 zd);have TW3:=f0 Zw (fun _ _ _ _ _ _=>by exact u3 fun _ _ _=>rfl) (fun fd F=>mL F U0 EX2 OP zd);have EX3:=f0 Zy (fun _ _ _ _ _ _=>by exact u3 fun _ _ _=>rfl) (fun fd F=>jB F U0 ZX ZC CE3 TW3 zd);have SR:=f0 d15 (fun _ _ _ _ _ _=>by exact u3 fun _ _ _=>rfl) (fun fd F=>Ah F U0 EX3 zd);have LF:=f0 d14 (fun _ _ _ _ _ _=>by exact u2 fun _ _=>rfl) (fun fd F=>xu F U0 Z B SR ER zd);have CH0:Fn l.prog w K mg base "read_choice" 12 [SY,SV,TH] (iV cR 0):=f0 Zz (fun _ _ _ _ _ _=>by exact u3 fun _ _ _=>rfl) (fun fd F=>c8);have BD0:=f0 ZA (fun _ _ _ _ _ _=>by exact u3 fun _ _ _=>rfl) (fun fd F=>ie F U0 Z CH0 (gx (k:=12) LF zd) zd);have CH1:=f0 Zz (fun _ _ _ _ _ _=>by exact u3 fun _ _ _=>rfl) (fun fd F=>gO F U0 TE BD0 zd);have BD1:=f0 ZA (fun _ _ _ _ _ _=>by exact u3 fun _ _ _=>rfl) (fun fd F=>ie F U0 Z CH1 (gx (k:=14) LF zd) zd);have CH2:=f0 Zz (fun _ _ _ _ _ _=>by exact u3 fun _ _ _=>rfl) (fun fd F=>gO F U0 TE BD1 zd);have BD2:=f0 ZA (fun _ _ _ _ _ _=>by exact u3 fun _ _ _=>rfl) (fun fd F=>ie F U0 Z CH2 (gx (k:=16) LF zd) zd);have CH3:=f0 Zz (fun _ _ _ _ _ _=>by exact u3 fun _ _ _=>rfl) (fun fd F=>gO F U0 TE BD2 zd);have BD3:=f0 ZA (fun _ _ _ _ _ _=>by exact u3 fun _ _ _=>rfl) (fun fd F=>ie F U0 Z CH3 (gx (k:=18) LF zd) zd);have KD:=f0 d8 (fun _ _ _ _ _ _=>by exact u2 fun _ _=>rfl) (fun fd F=>Al F U0 FS BD3 zd);have RF:=f0 d5 (fun _ _ _ _ _ _=>by exact u1 fun _=>rfl) (fun fd F=>Ao F U0 Z B CR.mk_ (JQ X G CR.ns) INR bIR BO NA KD zd);have AN:=f0 d21 (fun _ _ _ _ _ _=>by exact u4 fun _ _ _ _=>rfl) (fun fd F=>qW F);have NK:=f0 d22 (fun _ _ _ _ _ _=>by exact u3 fun _ _ _=>rfl) (fun fd F=>mT F);have NW:=f0 d24 (fun _ _ _ _ _ _=>by exact u2 fun _ _=>rfl) (fun fd F=>Dk F B3 AN);have XO0:Fn l.prog w K mg base "expression_of" 1 [S7,Uu] (mU 0):=f0 YG (fun _ _ _ _ _ _=>by exact u2 fun _ _=>rfl) (fun fd F=>c8);have XO1:=f0 YG (fun _ _ _ _ _ _=>by exact u2 fun _ _=>rfl) (fun fd F=>jD F NK XO0 zd);have XO2:=f0 YG (fun _ _ _ _ _ _=>by exact u2 fun _ _=>rfl) (fun fd F=>jD F NK XO1 zd);have XO3:=f0 YG (fun _ _ _ _ _ _=>by exact u2 fun _ _=>rfl) (fun fd F=>jD F NK XO2 zd);have XO4:=f0 YG (fun _ _ _ _ _ _=>by exact u2 fun _ _=>rfl) (fun fd F=>jD F NK XO3 zd);have SO:=f0 d27 (fun _ _ _ _ _ _=>by exact u2 fun _ _=>rfl) (fun fd F=>xF F NK XO4 zd);have TT:=f0 d26 (fun _ _ _ _ _ _=>by exact u2 fun _ _=>rfl) (fun fd F=>uS F NK);have EO:=f0 d28 (fun _ _ _ _ _ _=>by exact u2 fun _ _=>rfl) (fun fd F=>uT F NK);have DO0:Fn l.prog w K mg base "deed_of" 6 [S7,Ur] (ig 3 0):=f0 YH (fun _ _ _ _ _ _=>by exact u2 fun _ _=>rfl) (fun fd F=>c8);have DO1:=f0 YH (fun _ _ _ _ _ _=>by exact u2 fun _ _=>rfl) (fun fd F=>gj F B TT EO (gx (k:=6) SO zd) DO0 zd);have DO2:=f0 YH (fun _ _ _ _ _ _=>by exact u2 fun _ _=>rfl) (fun fd F=>gj F B TT EO (gx (k:=7) SO zd) DO1 zd);have DO3:=f0 YH (fun _ _ _ _ _ _=>by exact u2 fun _ _=>rfl) (fun fd F=>gj F B TT EO (gx (k:=8) SO zd) DO2 zd);have DO4:=f0 YH (fun _ _ _ _ _ _=>by exact u2 fun _ _=>rfl) (fun fd F=>gj F B TT EO (gx (k:=9) SO zd) DO3 zd);have KN:=f0 d23 (fun _ _ _ _ _ _=>by exact u2 fun _ _=>rfl) (fun fd F=>FP F B NW DO4 zd);have TF:=f0 d20 (fun _ _ _ _ _ _=>by exact u1 fun _=>rfl) (fun fd F=>FR F B B3 CT.mk_ (JQ X G CT.ns) INT bIT AN NK KN zd);have SG:=f0 d31 (fun _ _ _ _ _ _=>by exact u2 fun _ _=>rfl) (fun fd F=>Ab F CT2);have RN:=f0 d32 (fun _ _ _ _ _ _=>by exact u2 fun _ _=>rfl) (fun fd F=>De F CT2 SG);have TO:=f0 d30 (fun _ _ _ _ _ _=>by exact u1 fun _=>rfl) (fun fd F=>Ac F CT2 SG RN);have RT:=f0 d33 (fun _ _ _ _ _ _=>by exact u1 fun _=>rfl) (fun fd F=>FV F B (JQ X G M6) TO RF TF zd zd);have KA:bB l.prog w K mg base cT "kind_at" 1 [SN,S0] (fL cT):=(cw (P:=l.prog) (w:=w) (mg:=mg) (base:=base) LW Ln (fun _ _ _ _ _ _=>by exact u2 fun _ _=>rfl) (fun fd F=>uW F TC));have FO:bB l.prog w K mg base cT "fields_of" 2 [SN,S0] (pE cT):=(cw (P:=l.prog) (w:=w) (mg:=mg) (base:=base) LN Lj (fun _ _ _ _ _ _=>by exact u2 fun _ _=>rfl) (fun fd F=>FW F TC KA));have DE:bB l.prog w K mg base cT TL 2 [SN,S0] (gk cT):=(cw (P:=l.prog) (w:=w) (mg:=mg) (base:=base) LL Lh (fun _ _ _ _ _ _=>by exact u2 fun _ _=>rfl) (fun fd F=>xR F TC KA));have WO1:=f0 d37 (fun _ _ _ _ _ _=>by exact u2 fun _ _=>rfl) (fun fd F=>As F WI);have IO1:=f0 d40 (fun _ _ _ _ _ _=>by exact u4 fun _ _ _ _=>rfl) (fun fd F=>rh F TC B WI WO1);have IR1:=f0 d39 (fun _ _ _ _ _ _=>by exact u3 fun _ _ _=>rfl) (fun fd F=>xT F TC B B4 FO IO1);have NR1:=f0 d44 (fun _ _ _ _ _ _=>by exact u2 fun _ _=>rfl) (fun fd F=>DW F ZH IR1);have LTO:=f0 d43 (fun _ _ _ _ _ _=>by exact u3 fun _ _ _=>rfl) (fun fd F=>uY F B WI);have LOF:=f0 d42 (fun _ _ _ _ _ _=>by exact u3 fun _ _ _=>rfl) (fun fd F=>uZ F B LTO);have HIW:=f0 d41 (fun _ _ _ _ _ _=>by exact u1 fun _=>rfl) (fun fd F=>Av F TC);obtain⟨fdS,INS,bIS⟩:=oz (P:=l.prog) (w:=w) (mg:=mg) (base:=base) IS (fun _ _ _ _ _ _=>by exact u6 fun _ _ _ _ _ _=>rfl) (fun fd F=>F0 F SC B);obtain⟨fdW,INW,bIW⟩:=oz (P:=l.prog) (w:=w) (mg:=mg) (base:=base) IW (fun _ _ _ _ _ _=>by exact u4 fun _ _ _ _=>rfl) (fun fd F=>yH F WC);obtain⟨aSO,fdSO,FSO⟩:=dSO;have mgO:=JQ X G aSO;have OKS:=DV (P:=l.prog) (w:=w) (base:=base) FSO TC B ZH CS.mk_ (JQ X G CS.ns) INS bIS WI LTO LOF HIW;have HS:mg "sorted"=none:=J3 X G ND;have ZP:Zp w K mg aP aPC aPB:=⟨JQ X G MP,dP,loP,Nm,Nl⟩;have ZT:DS K mg Lz LI:=⟨JQ X G MM,Ng,JQ X G Nb,Nn⟩;have ZW:Zq mg Mr Mb:=⟨JQ X G Nf,JQ X G MR⟩;have SEL:=f0 d58 (fun _ _ _ _ _ _=>by exact u2 fun _ _=>rfl) (fun fd F=>Re F);have ZD:=f0 d59 (fun _ _ _ _ _ _=>by exact u2 fun _ _=>rfl) (fun fd F=>Rg F B3);have AD0:Fn l.prog w K mg base "address_told" 0 [SQ,SW,SX,Uu] (hZ):=f0 d63 (fun _ _ _ _ _ _=>by exact u4 fun _ _ _ _=>rfl) (fun fd F=>c8);have ZG:=f0 d62 (fun _ _ _ _ _ _=>by exact u4 fun _ _ _ _=>rfl) (fun fd F=>Q1 F SEL ZD AD0);have ADT:=f0 d63 (fun _ _ _ _ _ _=>by exact u4 fun _ _ _ _=>rfl) (fun fd F=>QT F TC ZG);have RST:=f0 d45 (fun _ _ _ _ _ _=>by exact u2 fun _ _=>rfl) (fun fd F=>AC F);have WTI:=f0 d61 (fun _ _ _ _ _ _=>by exact u4 fun _ _ _ _=>rfl) (fun fd F=>Ga F B B3 HS RST);have FF0:Fn l.prog w K mg base "form_of" 2 [SQ,SW,SX,Uu] (ij cT 0):=f0 d60 (fun _ _ _ _ _ _=>by exact u4 fun _ _ _ _=>rfl) (fun fd F=>c8);have FF1:=f0 d60 (fun _ _ _ _ _ _=>by exact u4 fun _ _ _ _=>rfl) (fun fd F=>pO F TC zd ZG WTI FF0);have FF2:=f0 d60 (fun _ _ _ _ _ _=>by exact u4 fun _ _ _ _=>rfl) (fun fd F=>pO F TC zd ZG WTI FF1);have BIO:=f0 d66 (fun _ _ _ _ _ _=>by exact u4 fun _ _ _ _=>rfl) (fun fd F=>DK F ZG ZD);have LGI:=f0 d65 (fun _ _ _ _ _ _=>by exact u4 fun _ _ _ _=>rfl) (fun fd F=>AG F SEL);have CGI:=f0 d67 (fun _ _ _ _ _ _=>by exact u4 fun _ _ _ _=>rfl) (fun fd F=>yj F ADT FF2);have EFO:=f0 d64 (fun _ _ _ _ _ _=>by exact u4 fun _ _ _ _=>rfl) (fun fd F=>DP F B TC ZP LGI FF2 BIO CGI);have LV0:Fn l.prog w K mg base "leaves_of" 0 [TL] (hZ):=f0 d48 (fun _ _ _ _ _ _=>by exact u1 fun _=>rfl) (fun fd F=>c8);have LVS:=f0 d48 (fun _ _ _ _ _ _=>by exact u1 fun _=>rfl) (fun fd F=>vk F LV0);have SM0:Fn l.prog w K mg base "is_sum" 0 [Uu] (tI 0):=f0 d55 (fun _ _ _ _ _ _=>by exact u1 fun _=>rfl) (fun fd F=>c8);have SM1:=f0 d55 (fun _ _ _ _ _ _=>by exact u1 fun _=>rfl) (fun fd F=>yr F ZT SM0);have SM2:=f0 d55 (fun _ _ _ _ _ _=>by exact u1 fun _=>rfl) (fun fd F=>yr F ZT SM1);have PST:=f0 d54 (fun _ _ _ _ _ _=>by exact u1 fun _=>rfl) (fun fd F=>AO F ZT SM2);have IPL:=f0 d53 (fun _ _ _ _ _ _=>by exact u2 fun _ _=>rfl) (fun fd F=>rG F B TC DE LVS PST);have NFO:=f0 d57 (fun _ _ _ _ _ _=>by exact u2 fun _ _=>rfl) (fun fd F=>vn F B);have CHO:=f0 d56 (fun _ _ _ _ _ _=>by exact u2 fun _ _=>rfl) (fun fd F=>vo F TC FO NFO);have CHS:=f0 d85 (fun _ _ _ _ _ _=>by exact u1 fun _=>rfl) (fun fd F=>rJ F TC CHO);have SHO:=f0 d69 (fun _ _ _ _ _ _=>by exact u1 fun _=>rfl) (fun fd F=>yu F TC B FO);have SSH:=f0 d68 (fun _ _ _ _ _ _=>by exact u2 fun _ _=>rfl) (fun fd F=>nG F SHO);have NPL:=f0 d84 (fun _ _ _ _ _ _=>by exact u2 fun _ _=>rfl) (fun fd F=>Qr F TC SSH IPL);have COM:=f0 d86 (fun _ _ _ _ _ _=>by exact u4 fun _ _ _ _=>rfl) (fun fd F=>QY F TC DE);have IHD:=f0 d82 (fun _ _ _ _ _ _=>by exact u3 fun _ _ _=>rfl) (fun fd F=>Qn F B);have IJ0:Fn l.prog w K mg base "is_just" 0 [S6,TV] (O2 K 0):=f0 Xe (fun _ _ _ _ _ _=>by exact u2 fun _ _=>rfl) (fun fd F=>c8);have IJ1:=f0 Xe (fun _ _ _ _ _ _=>by exact u2 fun _ _=>rfl) (fun fd F=>Oi F B B4 IJ0);have IJ2:=f0 Xe (fun _ _ _ _ _ _=>by exact u2 fun _ _=>rfl) (fun fd F=>Oi F B B4 IJ1);have IJ3:=f0 Xe (fun _ _ _ _ _ _=>by exact u2 fun _ _=>rfl) (fun fd F=>Oi F B B4 IJ2);have IJ4:=f0 Xe (fun _ _ _ _ _ _=>by exact u2 fun _ _=>rfl) (fun fd F=>Oi F B B4 IJ3);have IJ5:=f0 Xe (fun _ _ _ _ _ _=>by exact u2 fun _ _=>rfl) (fun fd F=>Oi F B B4 IJ4);have IJ6:=f0 Xe (fun _ _ _ _ _ _=>by exact u2 fun _ _=>rfl) (fun fd F=>Oi F B B4 IJ5);have IJ7:=f0 Xe (fun _ _ _ _ _ _=>by exact u2 fun _ _=>rfl) (fun fd F=>Oi F B B4 IJ6);have LHO:=f0 d92 (fun _ _ _ _ _ _=>by exact u4 fun _ _ _ _=>rfl) (fun fd F=>yy F COM EFO IJ7);have CAH:=f0 d91 (fun _ _ _ _ _ _=>by exact u5 fun _ _ _ _ _=>rfl) (fun fd F=>yz F IHD LHO);have ENH:=f0 d89 (fun _ _ _ _ _ _=>by exact u4 fun _ _ _ _=>rfl) (fun fd F=>vq F B IJ7 CAH);have ALH:=f0 d88 (fun _ _ _ _ _ _=>by exact u3 fun _ _ _=>rfl) (fun fd F=>vt F B B4 NPL CHS ENH);have TLD:bB l.prog w K mg base cS TV 1 [SN] (kJ cS):=(cw (P:=l.prog) (w:=w) (mg:=mg) (base:=base) L9 Ly (fun _ _ _ _ _ _=>by exact u1 fun _=>rfl) (fun fd F=>AR F SC B));have EWI:bB l.prog w K mg base cS "end_with" 1 [SN,S8,S3] (dw cS):=(cw (P:=l.prog) (w:=w) (mg:=mg) (base:=base) LM Li (fun _ _ _ _ _ _=>by exact u3 fun _ _ _=>rfl) (fun fd F=>rP F SC));have CPD:bB l.prog w K mg base cS "copied" 3 [SN] (ip cS):=(cw (P:=l.prog) (w:=w) (mg:=mg) (base:=base) LK Lg (fun _ _ _ _ _ _=>by exact u1 fun _=>rfl) (fun fd F=>vz F SC CS.mk_ (JQ X G CS.ns) INS bIS));have LOP:bB l.prog w K mg base cS "lay_on_pile" 2 [SN,"number",S9] (tR cS):=(cw (P:=l.prog) (w:=w) (mg:=mg) (base:=base) LX Lo (fun _ _ _ _ _ _=>by exact u3 fun _ _ _=>rfl) (fun fd F=>D8 F SC B EWI));have NSI:=f0 d70 (fun _ _ _ _ _ _=>by exact u3 fun _ _ _=>rfl) (fun fd F=>DY F SC NR1);have NT:bB l.prog w K mg base cW "number_told" 1 [SN,Tu] i9:=(cw (P:=l.prog) (w:=w) (mg:=mg) (base:=base) L6 Lv (fun _ _ _ _ _ _=>by exact u2 fun _ _=>rfl) (fun fd F=>AZ F));have ZB:bB l.prog w K mg base cW "place_word" 2 [SN,Tu] (AS cT cS cW):=(cw (P:=l.prog) (w:=w) (mg:=mg) (base:=base) L7 Lw (fun _ _ _ _ _ _=>by exact u2 fun _ _=>rfl) (fun fd F=>vA F WC SC NT));have GPL:bB l.prog w K mg base cW "give_place" 2 [SN,Tu,S8] (AU cT cS cW):=(cw (P:=l.prog) (w:=w) (mg:=mg) (base:=base) LU Lm (fun _ _ _ _ _ _=>by exact u3 fun _ _ _=>rfl) (fun fd F=>vB F WC SC NT));have TRU:=f0 d38 (fun _ _ _ _ _ _=>by exact u1 fun _=>rfl) (fun fd F=>yL F);have GMK:bB l.prog w K mg base cW "give_mark" 2 [SN,Tu,S8] (AV cT cS cW):=(cw (P:=l.prog) (w:=w) (mg:=mg) (base:=base) LS Ll (fun _ _ _ _ _ _=>by exact u3 fun _ _ _=>rfl) (fun fd F=>vC F WC SC NT TRU));have GCL:bB l.prog w K mg base cW "give_cell" 2 [SN,T3,S8] (AW cT cS cW):=(cw (P:=l.prog) (w:=w) (mg:=mg) (base:=base) LQ Lk (fun _ _ _ _ _ _=>by exact u3 fun _ _ _=>rfl) (fun fd F=>vD F TC WC SC));obtain⟨aAD,fdA,FA⟩:=d46;have okA:=yG (P:=l.prog) (w:=w) (mg:=mg) (base:=base) FA RST;have RCK:=f0 d47 (fun _ _ _ _ _ _=>by exact u4 fun _ _ _ _=>rfl) (fun fd F=>AX F (JQ X G M8) dO A8 okA FA.kp (FA.binds (fun _ _ _ _ _ _=>by exact u3 fun _ _ _=>rfl)));have WW0:Fn l.prog w K mg base "word_of" 3 [Ub,Uu] (jJ cT cS cW 0):=f0 d50 (fun _ _ _ _ _ _=>by exact u2 fun _ _=>rfl) (fun fd F=>c8);have WW1:=f0 d50 (fun _ _ _ _ _ _=>by exact u2 fun _ _=>rfl) (fun fd F=>lR F TC WC zd ZB RCK WW0);have WW2:=f0 d50 (fun _ _ _ _ _ _=>by exact u2 fun _ _=>rfl) (fun fd F=>lR F TC WC zd ZB RCK WW1);have SRK:=f0 d52 (fun _ _ _ _ _ _=>by exact u2 fun _ _=>rfl) (fun fd F=>yN F WW2);have GST:=f0 d51 (fun _ _ _ _ _ _=>by exact u2 fun _ _=>rfl) (fun fd F=>pQ F WC SRK GPL GMK GCL);have LFO:=f0 d49 (fun _ _ _ _ _ _=>by exact u2 fun _ _=>rfl) (fun fd F=>vF F);have RGI:=f0 d72 (fun _ _ _ _ _ _=>by exact u3 fun _ _ _=>rfl) (fun fd F=>pR F TC CW.mk_ (JQ X G CW.ns) INW bIW LFO GST DE);have GBK:=f0 d74 (fun _ _ _ _ _ _=>by exact u1 fun _=>rfl) (fun fd F=>vG F SC EWI);have EGI:=f0 d73 (fun _ _ _ _ _ _=>by exact u4 fun _ _ _ _=>rfl) (fun fd F=>pS F TC SC GBK EWI LOP);have RDN:=f0 d71 (fun _ _ _ _ _ _=>by exact u3 fun _ _ _=>rfl) (fun fd F=>rW F SC NSI CPD RGI EGI);have PWO:=f0 d77 (fun _ _ _ _ _ _=>by exact u3 fun _ _ _=>rfl) (fun fd F=>vI F B ZW ZD);have MBI:=f0 d78 (fun _ _ _ _ _ _=>by exact u2 fun _ _=>rfl) (fun fd F=>yS F ZD);have FRT:=f0 d76 (fun _ _ _ _ _ _=>by exact u3 fun _ _ _=>rfl) (fun fd F=>A2 F B TC FO PWO MBI);have PKS:=f0 d79 (fun _ _ _ _ _ _=>by exact u1 fun _=>rfl) (fun fd F=>yT F B B3);have OPO:=f0 d80 (fun _ _ _ _ _ _=>by exact u4 fun _ _ _ _=>rfl) (fun fd F=>yV F B B3 TC ZW FO);have CTR:=f0 d81 (fun _ _ _ _ _ _=>by exact u1 fun _=>rfl) (fun fd F=>rZ F B TC);have PBY:=f0 d75 (fun _ _ _ _ _ _=>by exact u5 fun _ _ _ _ _=>rfl) (fun fd F=>vK F B B3 TC SC FRT PKS OPO CTR FSO mgO OKS RDN TLD);have CSO:=f0 d87 (fun _ _ _ _ _ _=>by exact u5 fun _ _ _ _ _=>rfl) (fun fd F=>QZ F COM EFO PBY);have ALK:=f0 d83 (fun _ _ _ _ _ _=>by exact u2 fun _ _=>rfl) (fun fd F=>QD F NPL CHS CSO);have LRR:=f0 d96 (fun _ _ _ _ _ _=>by exact u3 fun _ _ _=>rfl) (fun fd F=>Qs F B SC ALK ALH RDN TLD);have CL:=f0 d34 (fun _ _ _ _ _ _=>by exact u2 fun _ _=>rfl) (fun fd F=>zS F B);have ST:=f0 d35 (fun _ _ _ _ _ _=>by exact u1 fun _=>rfl) (fun fd F=>uI F B);have TK1:=f0 d36 (fun _ _ _ _ _ _=>by exact u2 fun _ _=>rfl) (fun fd F=>zT F);have LES:=f0 d93 (fun _ _ _ _ _ _=>by exact u1 fun _=>rfl) (fun fd F=>y8 F);have LTX:=f0 d94 (fun _ _ _ _ _ _=>by exact u4 fun _ _ _ _=>rfl) (fun fd F=>y9 F B);have LSM:=f0 d95 (fun _ _ _ _ _ _=>by exact u3 fun _ _ _=>rfl) (fun fd F=>za F);exact zc F B CL ST TK1 LES LTX LSM (gx (k:=27) RT zd) (gx (k:=27) LRR zd) zd
end L3
namespace PySem.W.Fast
def t:=trivial
def tw13818956795355219819:=t
def tw819554314493980338:=t
def tw17352230470799410392:=t
def tw11300803629049736576:=t
def tw5402662658229357325:=t
def tw1605548865082136812:=t
def tw14919407000316649303:=t
def tw15520377064913792041:=t
def tw9970440027096659444:=t
def tw3325304379842594224:=t
def tw13372293969397274493:=t
def tw2280350730520945760:=t
def tw14237594594820762937:=t
def tw1152860878476044770:=t
def tw8288907190263934539:=t
def tw15526203697192480459:=t
def tw632131037926785446:=t
def tw17791214668365970294:=t
def tw6176362547935705852:=t
def tw3664803062371532372:=t
def tw16680808149767875619:=t
def tw16961588391991796270:=t
def tw327408963194237438:=t
def tw17804180052047675326:=t
def tw5142244944523903305:=t
def tw2463952024844023571:=t
def tw13992155970620295474:=t
def tw3307787581996547832:=t
def tw10778412684085722923:=t
def tw10304612424310234683:=t
def tw7502301234253577000:=t
def tw3977909213636597085:=t
def tw14483806593292058884:=t
def tw6309225635019411251:=t
def tw10440884975008822127:=t
def tw6983528275247033020:=t
def tw2446612939578062391:=t
def tw9648058451668867013:=t
def tw16304306261172377022:=t
def tw13812079059972028361:=t
def tw9191639184308507435:=t
def tw10342771336169127372:=t
def tw9080383283520338161:=t
def tw4536123261415368046:=t
def tw2770266216772946712:=t
def tw4194832340392540673:=t
def tw9757769412886109210:=t
def tw3883616831757045924:=t
def tw11660402977787578047:=t
def tw6640430549229249598:=t
def tw16245327529059397811:=t
def tw4688287655034392889:=t
def tw1783002207219490748:=t
def tw8516470820125620325:=t
def tw12820666746421669948:=t
def tw5082760756053330370:=t
def tw10783364151318042599:=t
def tw1606759161235842666:=t
def tw10825191820234236339:=t
def tw7624173587981854441:=t
def tw588125372944516111:=t
def tw9617931089062656009:=t
def tw1804511868411387705:=t
def tw434340095541778367:=t
def tw8716170641239634945:=t
def tw1508787819149524830:=t
def tw4646065842565905734:=t
def tw13756078881568964464:=t
def tw14219519183320147912:=t
def tw13622203139753023997:=t
def tw6530568176117934144:=t
def tw108113945975483640:=t
def tw15670312954134588010:=t
def tw10398499950800675390:=t
def tw17144747168617786434:=t
def tw2559456483254798618:=t
def tw8576537645797456103:=t
def tw8625123205663494872:=t
def tw12184653091384862456:=t
def tw307427964477960752:=t
def tw10665457792442104819:=t
def tw5332728213191321262:=t
def tw3681872102285330918:=t
def tw3425857156661838920:=t
def tw13694015505778255913:=t
def tw11735434188729224362:=t
def tw2429185638291722780:=t
def tw13156195069506785611:=t
def tw232902238122574310:=t
def tw10601796325677846536:=t
def tw11603379720707883387:=t
def tw5512636319538079731:=t
def tw4715262821400212942:=t
def tw10968891508468275696:=t
def tw17325156996644930785:=t
def tw4727432470456999209:=t
def tw5776437314078022097:=t
def tw12278525786915141886:=t
def tw6508560110714346675:=t
def tw9580293218583055278:=t
def tw7232473571315599073:=t
def tw3949518989456584855:=t
def tw9454435052193763677:=t
def tw8003939793278423722:=t
def tw1531199053669455904:=t
def tw10031059147572784439:=t
def tw3238869874541330013:=t
def tw16395795402131904349:=t
def tw16433308069840439392:=t
def tw1104700895608989529:=t
def tw13293181607807511555:=t
def tw6150346639964389991:=t
def tw6174104478832135354:=t
def tw16309038786493527718:=t
def tw7430060088608943226:=t
def tw8978098890085785007:=t
def tw4175827824615110488:=t
def tw18187006869974701247:=t
def tw1645537782229633333:=t
def tw10506361557432489954:=t
def tw12103777494340613580:=t
def tw14157485511969617903:=t
def tw5434838031080499032:=t
def tw4408467832622908521:=t
def tw4090731742143422181:=t
def tw15212983706164779931:=t
def tw13383206029097571671:=t
def tw12743590516162854207:=t
def tw486835348269683958:=t
def tw18161846109078623364:=t
def tw4464955877379316760:=t
def tw14009158500081446637:=t
def tw11477179190369856503:=t
def tw2184970987998145370:=t
def tw8291471914189595418:=t
def tw8022160816013369925:=t
def tw16858278248211238400:=t
def tw15819308788511404306:=t
def tw18276629479519347155:=t
def tw487970635329302405:=t
def tw7137944437526160648:=t
def tw1350681066734460772:=t
def tw7014565152123830270:=t
def tw8260166879507904193:=t
def tw14321832082362121725:=t
def tw15731945540462649394:=t
def tw4381098659917247146:=t
def tw7265235943299505122:=t
def tw11232559057654738196:=t
def tw12807667816092836804:=t
def tw5034414049508315998:=t
def tw873829760633815289:=t
def tw10998619044079744990:=t
def tw16102833264372023422:=t
def tw5219920167223573204:=t
def tw3557741109633317577:=t
def tw7849250948156319336:=t
def tw18264051731393561253:=t
def tw18411596038842880183:=t
def tw10921137968385809628:=t
def tw13948558361853441246:=t
def tw926856643078952422:=t
def tw10042320484595004339:=t
def tw16565158792101428213:=t
def tw1106198753982875366:=t
def tw15519203944275738391:=t
def tw13240230455348069591:=t
def tw11212755366381680036:=t
def tw6058945058006764668:=t
def tw10615791041747899764:=t
def tw3230115540716314219:=t
def tw15462828851503561543:=t
def tw17428975978463112286:=t
def tw3646211949479646989:=t
def tw1254230596627105014:=t
def tw46055706581322311:=t
def tw3460396049705901934:=t
def tw11517735451441279723:=t
def tw13498001842557806853:=t
def tw16768840970093357589:=t
def tw4156913917602261031:=t
def tw63649363151552013:=t
def tw11480407799656583600:=t
def tw3384152779383460793:=t
def tw6302623640186425395:=t
def tw12191736461399962048:=t
def tw5997070106158609602:=t
def tw10040568094781817042:=t
def tw11977541722258683506:=t
def tw11189635619160861325:=t
def tw1554534613846529088:=t
def tw10631919626545365525:=t
def tw9062966742520544270:=t
def tw14888422125236464760:=t
def tw8980313926162236582:=t
def tw18119573807335883528:=t
def tw16017546101826907430:=t
def tw10624869742974944947:=t
def tw4779562436723388372:=t
def tw1944993240588848070:=t
def tw3714432840249347418:=t
def tw12989718252524572844:=t
def tw304581286057553573:=t
def tw6981912901636912787:=t
def tw12678571990456071446:=t
def tw7535562931780160384:=t
def tw9744697768445948736:=t
def tw15583068031016160267:=t
def tw133768646762147204:=t
def tw3048011782687298226:=t
def tw14517673341643978980:=t
def tw2786354732561304435:=t
def tw10142745062961921924:=t
def tw8312531884424925057:=t
def tw14328145236395529227:=t
def tw9827443834812551941:=t
def tw9502882447224940141:=t
def tw15545392446746867560:=t
def tw6552817977772730473:=t
def tw806065202812761789:=t
def tw9572857409198970506:=t
def tw4881663454422299781:=t
def tw6443032445243438393:=t
def tw5449213831289947618:=t
def tw3417913289351855070:=t
def tw16916925717682784479:=t
def tw1946626296210978645:=t
def tw11812192941452606644:=t
def tw11306305112880759116:=t
def tw17477518320803938082:=t
def tw12071506045411781264:=t
def tw11276749871822041517:=t
def tw6250039715322056978:=t
def tw2020474915478043136:=t
def tw16622796259299102951:=t
def tw14252742559876954781:=t
def tw11231159719155692907:=t
def tw3725326433443141152:=t
def tw17471681456539020653:=t
def tw15018752906321613509:=t
def tw12130213226653687016:=t
def tw528190635101694263:=t
def tw15692167368211251018:=t
def tw4949153898782421715:=t
def tw920317834140659610:=t
def tw8228104656450944129:=t
def tw6005824979629184356:=t
def tw10572099410046784235:=t
def tw17661394686290756069:=t
def tw4561297423087672655:=t
def tw3379833809367748889:=t
def tw6356550105428778965:=t
def tw3693932174421927168:=t
def tw12309056133677785871:=t
def tw15493507427700009820:=t
def tw4568276796160302302:=t
def tw2699564676635336588:=t
def tw8971695185721130397:=t
def tw1089185413163402585:=t
def tw15558247303036567998:=t
def tw29658514291444082:=t
def tw14188628990894105864:=t
def tw14938789150090512604:=t
def tw14811918670286085580:=t
def tw17377647295051109058:=t
def tw17820622587039481714:=t
def tw8791441585854522261:=t
def tw2258271646325958761:=t
def tw17787682240546608039:=t
def tw11783598935964958392:=t
def tw5620336296814108322:=t
def tw24688234949929613:=t
def tw861440261673152842:=t
def tw9911783477658616680:=t
def tw6259371205402656895:=t
def tw8571849432924123874:=t
def tw16969862496645292140:=t
def tw3640670077194443467:=t
def tw14574431224609232148:=t
def tw7179924155492837035:=t
def tw6221874084411098117:=t
def tw10556103622718064593:=t
def tw17603100531831699823:=t
def tw8052542281848831584:=t
def tw18164772705194560505:=t
def tw8295902988804946491:=t
def tw15183486975622977381:=t
def tw11192066640513355935:=t
def tw14791661586526987299:=t
def tw8908012994086120299:=t
def tw6187839484942883157:=t
def tw13616948175672488607:=t
def tw2348933608477845007:=t
def tw5631572827480999008:=t
def tw17429406251584727390:=t
def tw5633086219223785370:=t
def tw5067115911783583853:=t
def tw4376831103940606516:=t
def tw12020649519404659047:=t
def tw9662679001877423884:=t
def tw1173522376290877339:=t
def tw15137071242382194006:=t
def tw15650803590566817167:=t
def tw5678697001669729295:=t
def tw11292971213486028508:=t
def tw2435326017662075649:=t
def tw18217062391240040517:=t
def tw15372237319215948397:=t
def tw965658250902812655:=t
def tw2432730132728791163:=t
def tw15775974382429155017:=t
def tw9132428417379258474:=t
def tw780961405187417719:=t
def tw8488873735461181132:=t
def tw14717805348941140508:=t
def tw6965352714356525505:=t
def tw4710122209233272232:=t
def tw14502036069152837682:=t
def tw16854552737753696904:=t
def tw15563041445328174669:=t
def tw4883760721779334957:=t
def tw1996621800564566977:=t
def tw5947198946611196316:=t
def tw4116885660705112969:=t
def tw6203595522756891517:=t
def tw14858368824335228557:=t
def tw12449043656518977963:=t
def tw3202151519359035582:=t
def tw10840632397737455091:=t
def tw16739300538784130802:=t
def tw17524730402383856404:=t
def tw16173156806868843983:=t
def tw15541985876189756785:=t
def tw14985452988584474947:=t
def tw4094187805297755867:=t
def tw8129922663794446790:=t
def tw13092537285512776487:=t
def tw16511796291733719958:=t
def tw7549291432139262897:=t
def tw772127348086131174:=t
def tw11731417561580799074:=t
def tw3880559567329246346:=t
def tw3528005994728300095:=t
def tw3494540972192249254:=t
def tw6100615871254862699:=t
def tw16520767720837052844:=t
def tw12362995668113492055:=t
def tw7522033448861542920:=t
def tw14606682504965494861:=t
def tw13195295778349391965:=t
def tw4009766176204971487:=t
def tw16492525760395346241:=t
def tw10043115337767909415:=t
def tw6331264890508663380:=t
def tw12025797606418462876:=t
def tw5531228728969384227:=t
def tw17567182857630732616:=t
def tw16472752871068293564:=t
def tw18410529158679208792:=t
def tw7025994398018125831:=t
def tw11112741272450212608:=t
def tw6814905134372906269:=t
def tw14227054244070016255:=t
def tw11052772310396474028:=t
def tw12565859726964490353:=t
def tw17867925940001136734:=t
def tw15649573397971373795:=t
def tw15433552528835792729:=t
def tw11403342672669379432:=t
def tw1045126504737228866:=t
def tw4666162448132815152:=t
def tw2238352319319221385:=t
def tw15622795343635298244:=t
def tw9232114877834950732:=t
def tw5791226570766971770:=t
def tw4359608438161560099:=t
def tw15258226619024026829:=t
def tw2104309832140577126:=t
def tw18290302144626766040:=t
def tw2030873490049868927:=t
def tw16287144179499861352:=t
def tw10097060585241181366:=t
def tw2225599309925601068:=t
def tw8939675735262198773:=t
def tw18208335200586545588:=t
def tw6384209332104656860:=t
def tw16108227377234983452:=t
def tw2577774649744755800:=t
def tw8780540752205519380:=t
def tw8978978974251592594:=t
def tw8627958242380821558:=t
def tw5347318339756158288:=t
def tw3555862504729702062:=t
def tw18113902907970636399:=t
def tw12675107320283200795:=t
def tw12200707243000197480:=t
def tw8787922106156826861:=t
def tw14735110784506461142:=t
def tw8260579688104331460:=t
def tw17341519398933521677:=t
def tw12930971355719024091:=t
def tw8184503205765714331:=t
def tw15523504748711483840:=t
def tw10877555821587996670:=t
def tw15511892671896811305:=t
def tw13358152637657961870:=t
def tw16812891971299569527:=t
def tw12017516639518691961:=t
def tw4327527093412303672:=t
def tw2118571632515740745:=t
def tw11583190088633794898:=t
def tw12322797645085955719:=t
def tw13588839253332847478:=t
def tw5900673101208358286:=t
def tw17597395016879418065:=t
def tw12619266709411529581:=t
def tw6946888655005072068:=t
def tw14624517358323250042:=t
def tw4562498347389757262:=t
def tw3076044028031618926:=t
def tw12237736791373651611:=t
def tw727153544960070754:=t
def tw1951513975323642138:=t
def tw11265452653411161445:=t
def tw8880981860225250052:=t
def tw16474524874939054691:=t
def tw14398583487753698060:=t
def tw13453682026861919187:=t
def tw8950267740261754693:=t
def tw13585952161568809612:=t
def tw6309602848589478092:=t
def tw8910901576362637699:=t
def tw5530917210697272789:=t
def tw4931212036091574881:=t
def tw455070171206436828:=t
def tw1145226213263248427:=t
def tw5356922613922327374:=t
def tw10399414732095764312:=t
def tw17630350741677332283:=t
def tw1385388115475057773:=t
def tw16767783814083196451:=t
def tw11835701606426657402:=t
def tw6965059644427895108:=t
def tw6058979634723844855:=t
def tw4629029519069191666:=t
def tw2449218904610222707:=t
def tw2377627167899905190:=t
def tw13362480312488968873:=t
def tw4581359106503610988:=t
def tw2422157907808653579:=t
def tw3954395738301566653:=t
def tw14764936748334832179:=t
def tw10722450057631414681:=t
def tw9315208148259821785:=t
def tw6113594075985021164:=t
def tw5191805769753378174:=t
def tw3620570615897323176:=t
def tw10498744372941431834:=t
def tw9857142442734740615:=t
def tw13240852773451360075:=t
def tw2107816458532886242:=t
def tw17027803799025144827:=t
def tw13367720299869809933:=t
def tw10809900350195569258:=t
def tw4563822239064460125:=t
def tw4052447633639511919:=t
def tw1202072879539764301:=t
def tw7903036208240030312:=t
def tw4945214638991612192:=t
def tw16350279977666080376:=t
def tw12530099396732862742:=t
def tw11404960272972086561:=t
def tw9507455914978366275:=t
def tw6080588091084167415:=t
def tw2270361107644573301:=t
def tw7776077927469026821:=t
def tw4353540623676499645:=t
def tw12208551311547068555:=t
def tw9198697803883044873:=t
def tw1547654467750378803:=t
def tw734203843250537978:=t
def tw1640412548964715349:=t
def tw6752586407215284182:=t
def tw647603710379858347:=t
def tw6024299971815249697:=t
def tw3693793839484527835:=t
def tw3943750518494913497:=t
def tw12175350398380334540:=t
def tw763317562440654233:=t
def tw2275554098466962266:=t
def tw14273894652206021:=t
def tw11673264545418598846:=t
def tw7617640871042276626:=t
def tw373389394620114960:=t
def tw16204449021733314561:=t
def tw5164759110628416053:=t
def tw18117869711669229133:=t
def tw6486676820024111430:=t
def tw18165030742142966158:=t
def tw4709308301228088831:=t
def tw14603263452503879020:=t
def tw9037747230371215685:=t
def tw11656971653155285990:=t
def tw8558797507338157599:=t
def tw6828345292122237088:=t
def tw9617868632848009032:=t
def tw7977382614546775080:=t
def tw651612368793745322:=t
def tw17370404097618844365:=t
def tw15899556264286547752:=t
def tw11808173161688828785:=t
def tw10740271193977564788:=t
def tw9778700055016539231:=t
def tw7251042142967768358:=t
def tw3197609312616888129:=t
def tw12243160433315890335:=t
def tw2067295533720120353:=t
def tw15481725903251085382:=t
def tw8406296903842011696:=t
def tw2223057069284377333:=t
def tw14064920228425807155:=t
def tw10593946955852605186:=t
def tw10103446331283033907:=t
def tw1005761529903077030:=t
def tw4675271266834213497:=t
def tw3626680103858747544:=t
def tw9910495255615262454:=t
def tw5661688659641013604:=t
def tw5575666056960411035:=t
def tw4052100731299030247:=t
def tw1836892701286436277:=t
def tw13896768023655891109:=t
def tw11953955296651374585:=t
def tw15727265656852395899:=t
def tw11008661158551065463:=t
def tw8229008533300662942:=t
def tw6541399427492913776:=t
def tw5647012280902968701:=t
def tw17002243938624402296:=t
def tw13002048902783904280:=t
def tw11171413628812832040:=t
def tw2918932225157988228:=t
def tw2398900434705424618:=t
def tw13993442757374548152:=t
def tw8747066156909151282:=t
def tw6421770049953307690:=t
def tw3543097187370127233:=t
def tw14108477782749625707:=t
def tw12740379068905803967:=t
def tw103128040327924971:=t
def tw7086779701647783149:=t
def tw16165741905577518296:=t
def tw15367936834167665184:=t
def tw15253584818437601197:=t
def tw14886308492706834619:=t
def tw1407189584651681871:=t
def tw11021280922869704530:=t
def tw10772332468442659530:=t
def tw5641624723983030681:=t
def tw15667723037052452810:=t
def tw15086201357784357540:=t
def tw9497353402788117291:=t
def tw5202929188111935369:=t
def tw16766652517634269080:=t
def tw9177517233311722039:=t
def tw258619761914963713:=t
def tw1523458798092474011:=t
def tw10038570026959033473:=t
def tw9545485326604145537:=t
def tw7896642659490709542:=t
def tw4070583442863252370:=t
def tw3965525100325963877:=t
def tw2151430017534559435:=t
def tw13703042255383827670:=t
def tw2205625283046935064:=t
def tw13309884123433822263:=t
def tw5840312788456919933:=t
def tw5774238027931186840:=t
def tw18046070848249009657:=t
def tw147761354101038967:=t
def tw10342430113388988387:=t
def tw892805810922082104:=t
def tw13277462984611380977:=t
def tw8013020459082503393:=t
def tw16610960953367908203:=t
def tw16266409857008672574:=t
def tw13844041499166082296:=t
def tw12913221500655287267:=t
def tw12050390326790124122:=t
def tw7467266706366365784:=t
def tw4992160224098936795:=t
def tw9467793950966709319:=t
def tw4515373309323146627:=t
def tw1671770554264538738:=t
def tw14668051906269417581:=t
def tw10509349533096812535:=t
def tw2322869617479468062:=t
def tw7782638726928269437:=t
def tw3276239728266745453:=t
def tw2999267527373977027:=t
def tw2169131197769635576:=t
def tw10478539402867723243:=t
def tw7974850723751248163:=t
def tw5602929304678696120:=t
def tw313691458614250373:=t
def tw17005540878095462825:=t
def tw16411156694147031269:=t
def tw7909659936186455523:=t
def tw5390056184767063251:=t
def tw4151493047612740468:=t
def tw15020486684810833703:=t
def tw11654899484842742930:=t
def tw3418346531958285228:=t
def tw17226977845455727277:=t
def tw10248861847543637776:=t
def tw15751597108420923163:=t
def tw4860795403712623487:=t
def tw4418748200093234403:=t
def tw3062511351321062789:=t
def tw1224352782840340351:=t
def tw18422865364568294142:=t
def tw8304527072975701754:=t
def tw17792941984809162587:=t
def tw16925807552614594307:=t
def tw9944329024361804237:=t
def tw9209103760586952236:=t
def tw16264464040688973368:=t
def tw7875974037319705407:=t
def tw14255849304540345479:=t
def tw3727953413664463819:=t
def tw11141675024031939959:=t
def tw4017909022086888467:=t
def tw321267511992208651:=t
def tw926845814136866664:=t
def tw8531374837340271214:=t
def tw4272938067786432298:=t
def tw7643942509038042030:=t
def tw11047708405162155293:=t
def tw15477861384852983160:=t
def tw14063171804054818812:=t
def tw3076295161320923108:=t
def tw8333218442568219977:=t
def tw10433656013363502057:=t
def tw8297856973308200894:=t
def tw5866056332491771057:=t
def tw3729015423819201517:=t
def tw3470690090018751603:=t
def tw14333479174135521688:=t
def tw5015343736074424269:=t
def tw944184507727360379:=t
def tw8016883088542363789:=t
def tw9414573396128210348:=t
def tw6675814185693498687:=t
def tw18390060146706034131:=t
def tw18216383339789535873:=t
def tw17835706304760364828:=t
def tw11409811664636993855:=t
def tw11330585590644640125:=t
def tw1043055280278374604:=t
def tw10324148104991526869:=t
def tw1179623667172118273:=t
def tw11073931767607148804:=t
def tw9556539131720405844:=t
def tw15586404204900936803:=t
def tw9675624683127530427:=t
def tw5829368535747712966:=t
def tw12121356491695004722:=t
def tw7591609127951743904:=t
def tw4570562103836039255:=t
def tw225422224319078598:=t
def tw5798797199401524627:=t
def tw4761864036066893499:=t
def tw16823042615215060024:=t
def tw12171672109117258393:=t
def tw18034959777748254684:=t
def tw17253218582237725837:=t
def tw17245454752962666983:=t
def tw10604348647058220978:=t
def tw7637979853429183925:=t
def tw4505590459595804366:=t
def tw3798548090537502025:=t
def tw3127877795191387748:=t
def tw14069033202580292981:=t
def tw12812023734197142331:=t
def tw12108687775536482711:=t
def tw11736397064806499524:=t
def tw14868374586435734217:=t
def tw10769987446572568976:=t
def tw11645847711382956959:=t
def tw17351470326905394487:=t
def tw13759596674261915648:=t
def tw10751560770636338570:=t
def tw17412745592182231312:=t
def tw8824104706328006266:=t
def tw2589199740645059582:=t
def tw1736618864357834539:=t
def tw14496628255285680279:=t
def tw14067091273541664241:=t
def tw13119956188107428536:=t
def tw7858754477180484591:=t
def tw6962742817873980492:=t
def tw5362003550092536387:=t
def tw17979068656568134906:=t
def tw16578408241034266593:=t
def tw14534703409042134385:=t
def tw10550474253865185750:=t
def tw10259303695815709209:=t
def tw6748246598244989716:=t
def tw17709127311540745960:=t
def tw11210524415487387814:=t
def tw15721805743752847133:=t
def tw12109449454884236570:=t
def tw1130116849875715402:=t
def tw1106978247230830638:=t
def tw10981297421023588548:=t
def tw2122596934286564971:=t
def tw2037238751621502491:=t
def tw15243116394971381536:=t
def tw13825385862526562012:=t
def tw13555631500095898501:=t
def tw7796105717181261671:=t
def tw6961493331302416387:=t
def tw9204055331827373995:=t
def tw6175551620140042932:=t
def tw14901144279643651352:=t
def tw13694511533534008159:=t
def tw8174327007924327329:=t
def tw6401650450776785205:=t
def tw8952191048485241858:=t
def tw4634475826349850732:=t
def tw11302973658299580038:=t
def tw5924155876104934404:=t
def tw13258116035345389173:=t
def tw6647422703440278292:=t
def tw16192739253557408191:=t
def tw9893477294954586595:=t
def tw10116939194871293656:=t
def tw1454418631119081122:=t
def tw8851254823152579935:=t
def tw17755661028603255754:=t
def tw16909608745033472557:=t
def tw16065857751397377474:=t
def tw4504439597312019900:=t
def tw2849549975608637898:=t
def tw9141824287200861496:=t
def tw8606435061091386731:=t
def tw5832394401250448520:=t
def tw575006855835471249:=t
def tw5107460550637644570:=t
def tw5040923162633708402:=t
def tw4518764249888171252:=t
def tw17225927968855532767:=t
def tw17151518325846052657:=t
def tw15338467652777774255:=t
def tw14706745328753262497:=t
def tw12387802122160795730:=t
def tw6783860995473309927:=t
def tw14929527931209686515:=t
def tw12562613313147281994:=t
def tw6402234989777222902:=t
def tw7775832913518593035:=t
def tw6643186618804545061:=t
def tw5469189842623660342:=t
def tw4187399135093549128:=t
def tw2182527101879558292:=t
def tw16582106955848620308:=t
def tw16262535845811304539:=t
def tw16041151095327435061:=t
def tw15197888005788508998:=t
def tw13044554938165879400:=t
def tw11506740435523898695:=t
def tw1113806101314526283:=t
def tw10564272483218776546:=t
def tw10487844583206846365:=t
def tw11551190868312956942:=t
def tw9242439563718392808:=t
def tw9215281440893391350:=t
def tw865927431151368135:=t
def tw6628817143423729549:=t
def tw5138990764971331246:=t
def tw4872858311934171828:=t
def tw335215899160916284:=t
def tw3205811417240918988:=t
def tw17003886849533403489:=t
def tw14120084333933949062:=t
def tw13772406300714751279:=t
def tw12107663370519951396:=t
def tw11034529303312736050:=t
def tw10933378569551476394:=t
def tw12903663820649327504:=t
def tw12342755615886555772:=t
def tw4116027501159154124:=t
def tw9956265016016488638:=t
def tw9620076135778374549:=t
def tw8926411044390292462:=t
def tw7217758651554422081:=t
def tw3031490428925895243:=t
def tw15376825183787885919:=t
def tw12763561925355380377:=t
def tw1158196676499964912:=t
def tw11029987513306464869:=t
def tw9449303853718221252:=t
def tw8122392415836204332:=t
def tw787912564588047885:=t
def tw6348028748262295796:=t
def tw4924171097553774881:=t
def tw478168307313906664:=t
def tw3003044057322396395:=t
def tw2870464697271909187:=t
def tw17509940992504093465:=t
def tw17401853602590073791:=t
def tw16139508847776583652:=t
def tw1539590879846581365:=t
def tw11052041486705746462:=t
def tw10787724804683765938:=t
def tw9765504208220503420:=t
def tw9708860656812007035:=t
def tw9500149350484060147:=t
def tw9497477873123423658:=t
def tw936165378340935200:=t
def tw9214239495259674822:=t
def tw9169484796849958148:=t
def tw9165313162747074332:=t
def tw9079959972806832049:=t
def tw8979185829951463446:=t
def tw8928405083099383592:=t
def tw8736227447718606428:=t
def tw870239225297642690:=t
def tw8664969173748717921:=t
def tw8645140299227044754:=t
def tw8598869483139497334:=t
def tw8536507064308096873:=t
def tw8517786438040817788:=t
def tw8481300499157717480:=t
def tw8420703973243765340:=t
def tw8395516328442042976:=t
def tw8381002475312386316:=t
def tw8305312743044446472:=t
def tw8284958223448420988:=t
def tw8241778815471737858:=t
def tw824028692953287928:=t
def tw8213405629463179053:=t
def tw8203813575995046733:=t
def tw8193813553333397643:=t
def tw8164601587928959745:=t
def tw8113700271405709412:=t
def tw8106600751709639310:=t
def tw7978298329427959028:=t
def tw7972413732064822112:=t
def tw7862851355136077855:=t
def tw7858955252140091484:=t
def tw7749684353569694576:=t
def tw7614937103867184550:=t
def tw757590677477266696:=t
def tw7566332735290257805:=t
def tw7521616578916762285:=t
def tw728269151475766320:=t
def tw726969481699632436:=t
def tw7205659292203451216:=t
def tw7184863574105509242:=t
def tw7110716585833128867:=t
def tw7100990752161988847:=t
def tw7095751932563869792:=t
def tw7046973516581253384:=t
def tw7010487592959152589:=t
def tw7001673334280710467:=t
def tw6961959356274350941:=t
def tw6953339160272168165:=t
def tw6927182352835974751:=t
def tw6763738304890824685:=t
def tw6702213172414631330:=t
def tw6651099592601956691:=t
def tw6593715940004508611:=t
def tw6585469229415699372:=t
def tw657279875921782167:=t
def tw6556674745513562654:=t
def tw6378226735175576545:=t
def tw637286523331907107:=t
def tw6337127883933632935:=t
def tw6334453579313073578:=t
def tw6286935077601755298:=t
def tw6285590396855089629:=t
def tw6270426437233277523:=t
def tw6265128790039909095:=t
def tw6155231437133398172:=t
def tw6079317578383413218:=t
def tw6044750180122039286:=t
def tw6017290530873222902:=t
def tw5994862845012037586:=t
def tw5979425064792240129:=t
def tw5960529654120199299:=t
def tw591834252657263022:=t
def tw5765584463276245561:=t
def tw575668943726354773:=t
def tw5741224731753652195:=t
def tw5602348233412121702:=t
def tw5449462642450782154:=t
def tw5392732299236854309:=t
def tw539219952889333125:=t
def tw5361786321748835051:=t
def tw5350395508394610411:=t
def tw5346652791017553743:=t
def tw5311773700013342045:=t
def tw5091647433951946654:=t
def tw497940126192434943:=t
def tw4886959859929794575:=t
def tw4864462748571573233:=t
def tw4799593721939990252:=t
def tw4593020978667222717:=t
def tw4479013445532220780:=t
def tw4430255861607162711:=t
def tw4408992768568942358:=t
def tw4407126570768151640:=t
def tw4398748740280836569:=t
def tw4371277038579791032:=t
def tw4281933758554756952:=t
def tw4242468406302341810:=t
def tw4183367903596954340:=t
def tw4176890773042532192:=t
def tw4149914992901390841:=t
def tw4085586678301488808:=t
def tw4068723196125340882:=t
def tw3871468783691457803:=t
def tw3683620452115445071:=t
def tw364959350847688713:=t
def tw3409865832961020705:=t
def tw3407566219500226779:=t
def tw3336272624659918436:=t
def tw3314173134248490250:=t
def tw3193374437968259246:=t
def tw3182370370840782996:=t
def tw3072187710779563851:=t
def tw3013369901124599384:=t
def tw2998358828504495198:=t
def tw296113301058764090:=t
def tw2937390753617679565:=t
def tw2874219267988612221:=t
def tw2802949710603013805:=t
def tw2730256699100580819:=t
def tw2492838167475813798:=t
def tw2485593947884348043:=t
def tw2477645345637272201:=t
def tw2426858868675699136:=t
def tw2235680691032402725:=t
def tw2230558084391329450:=t
def tw221637243011071157:=t
def tw2193818441364993172:=t
def tw2182611822821045402:=t
def tw2153404017675583713:=t
def tw2115218190131725557:=t
def tw2102531718196228589:=t
def tw2076772462334491165:=t
def tw2033268091789392585:=t
def tw1993950820568065733:=t
def tw1952103521107739977:=t
def tw1939874610666615314:=t
def tw1908634155530501954:=t
def tw1853847590501036890:=t
def tw1849026163307938502:=t
def tw18446238835372293018:=t
def tw1840676602400437929:=t
def tw1835145773799591262:=t
def tw18335177342175131027:=t
def tw18265825858176450052:=t
def tw18153701952386558286:=t
def tw18085855415145809295:=t
def tw17954025525501253948:=t
def tw17852066853058601833:=t
def tw17675768274736738169:=t
def tw17661004078253777213:=t
def tw17633961803668199092:=t
def tw17631172429352508621:=t
def tw17507751473194285825:=t
def tw1749903704965398765:=t
def tw17453037976268085357:=t
def tw17364504540756464815:=t
def tw17307921012446577320:=t
def tw17117264512646216084:=t
def tw17112429627506260577:=t
def tw17067756409034322892:=t
def tw17064498711596601978:=t
def tw17041739574931988826:=t
def tw16958124189490631440:=t
def tw16928078925920024753:=t
def tw1685591632723661680:=t
def tw16771578248433688082:=t
def tw16673623928046058975:=t
def tw16648438556630205450:=t
def tw16628973608786482413:=t
def tw16623284190459694730:=t
def tw1644167708688988852:=t
def tw16432566888966254698:=t
def tw16366199926538285772:=t
def tw16363390190948261520:=t
def tw16336379038127921661:=t
def tw16192292258736246386:=t
def tw16191722861257371122:=t
def tw1616140605689419384:=t
def tw16084865842173163074:=t
def tw16059808502544475979:=t
def tw16015170364478504859:=t
def tw15900072349157883884:=t
def tw15839094209152880560:=t
def tw15818064413999598710:=t
def tw15809656053662491121:=t
def tw15751010459625232955:=t
def tw1568738812278428356:=t
def tw1562904763287608339:=t
def tw15565418436616879386:=t
def tw15543253979666697458:=t
def tw15533568415127210027:=t
def tw1548627621711052648:=t
def tw15448653797194335747:=t
def tw15416258161699729810:=t
def tw15406256934096793974:=t
def tw15375933143071696611:=t
def tw15375131956332149526:=t
def tw15375018439939113623:=t
def tw15374798605525465748:=t
def tw15346889342855264977:=t
def tw1530749235026298269:=t
def tw15163069210481653673:=t
def tw15069733835004438726:=t
def tw15034280524762673293:=t
def tw15028132941688443242:=t
def tw14866606255394276423:=t
def tw14766787811982342979:=t
def tw14712540862069290748:=t
def tw14673676100944727772:=t
def tw14639616447555066153:=t
def tw14608825056896794006:=t
def tw1459195725312037788:=t
def tw14454177193277729592:=t
def tw14400460784079334820:=t
def tw1433733964753843855:=t
def tw142126395735208643:=t
def tw14051911671096198650:=t
def tw13971039087513090095:=t
def tw13907884292221565208:=t
def tw13804513019762011119:=t
def tw13787260695162001771:=t
def tw13767297036772781520:=t
def tw13695600678353499151:=t
def tw13677224295164690644:=t
def tw13624512695080760257:=t
def tw13554608438415243430:=t
def tw13483951433456537783:=t
def tw13421837536252615382:=t
def tw1341691906218333309:=t
def tw13310581434745932701:=t
def tw13254974137706327725:=t
def tw13253319926028761453:=t
def tw1322161085137774149:=t
def tw13112922006067187805:=t
def tw13092930496946154263:=t
def tw13032547170983474299:=t
def tw13021675820657315142:=t
def tw12893217707237710389:=t
def tw12873894822639679373:=t
def tw12842030769992363593:=t
def tw127993574343487226:=t
def tw12767949404214389505:=t
def tw12629945323970401396:=t
def tw12600011097552294884:=t
def tw12538374702311010713:=t
def tw1249312669288927272:=t
def tw12464713007143340161:=t
def tw12396219778612054506:=t
def tw12376077918557459119:=t
def tw12326109966923636166:=t
def tw12212592361101932639:=t
def tw12174950753145710764:=t
def tw12161907454694845517:=t
def tw12151231825950828051:=t
def tw12117989086254985508:=t
def tw12085738922741802712:=t
def tw11965182691147239528:=t
def tw11942182176009452098:=t
def tw11622659436554157031:=t
def tw11600174170096697412:=t
def tw11576181757106470080:=t
def tw11545990069587346332:=t
def tw11412589203622528859:=t
def tw11245030185574361729:=t
def tw11194886172617435578:=t
def tw11173140698383778483:=t
def tw11064166121392020583:=t
def tw11015925271852351620:=t
def tw10941237340361783134:=t
def tw1081081652474003568:=t
def tw10691680088745035230:=t
def tw10594219527257738836:=t
def tw10551099783211271219:=t
def tw10545661307848584972:=t
def tw10517880388161454132:=t
def tw10458339268779444398:=t
def tw10442217716844536545:=t
def tw10418314999947283675:=t
def tw104164244301115473:=t
def tw10414858234501985530:=t
def tw10377168924160016554:=t
def tw10352316144338986865:=t
def tw10347808764060032058:=t
def tw10297738780105755450:=t
def tw10288458595478263164:=t
def tw10157022941058724218:=t
def tw10136395041165298691:=t
def tw10090502013591823071:=t
end PySem.W.Fast
local macro_rules|`(tactic| walk_at "def of the top")=>`(tactic| (refine' L3.EC ?a ?l ?c ?k;(case a=>k_is);(case l=>k_is);(case c=>k_is);(case k=>k_is)))
local macro_rules|`(tactic| walk_at "def of a class")=>`(tactic| (refine' L3.ED ?l ?c ?k ?n;(case l=>k_is);(case c=>k_is);(case k=>k_is);(case n=>k_is)))
local macro_rules|`(tactic| walk_at "class of 3")=>`(tactic| (refine' L3.ze ?ns ?g1 ?g2 ?g3 ?g4 ?m1 ?m2 ?m3 ?m4 ?na;(case ns=>k_is);(case g1=>k_is);(case g2=>k_is);(case g3=>k_is);(case g4=>k_is);(case m1=>k_is);(case m2=>k_is);(case m3=>k_is);(case m4=>k_is);(case na=>(refine' L3.Jw ?x ?y ?z;(case x=>k_is);(case y=>k_is);(case z=>k_is)))))
local macro_rules|`(tactic| walk_at "class of 7")=>`(tactic| (refine' L3.ze ?ns ?g1 ?g2 ?g3 ?g4 ?m1 ?m2 ?m3 ?m4 ?na;(case ns=>k_is);(case g1=>k_is);(case g2=>k_is);(case g3=>k_is);(case g4=>k_is);(case m1=>k_is);(case m2=>k_is);(case m3=>k_is);(case m4=>k_is);(case na=>(refine' L3.Jy ?x ?y ?z ?u ?x1 ?y1 ?z1;(case x=>k_is);(case y=>k_is);(case z=>k_is);(case u=>k_is);(case x1=>k_is);(case y1=>k_is);(case z1=>k_is)))))
local macro_rules|`(tactic| walk_at "class of 8")=>`(tactic| (refine' L3.ze ?ns ?g1 ?g2 ?g3 ?g4 ?m1 ?m2 ?m3 ?m4 ?na;(case ns=>k_is);(case g1=>k_is);(case g2=>k_is);(case g3=>k_is);(case g4=>k_is);(case m1=>k_is);(case m2=>k_is);(case m3=>k_is);(case m4=>k_is);(case na=>(refine' L3.Jx ?x ?y ?z ?u ?x1 ?y1 ?z1 ?u1;(case x=>k_is);(case y=>k_is);(case z=>k_is);(case u=>k_is);(case x1=>k_is);(case y1=>k_is);(case z1=>k_is);(case u1=>k_is)))))
local macro_rules|`(tactic| walk_at "state_of")=>`(tactic| (refine' L3.A6 ?a ?l ?e ?c ?k;(case a=>k_is);(case l=>k_is);(case e=>k_is);(case c=>k_is);(case k=>k_is)))
namespace L2
open PySem PySem.W
def liveO (o : Obj) : Option Obj := match o with
  | ⟨_, _, .freed, _⟩ => none
  | o => some o
noncomputable def pickAt (l : List Obj) : Nat → List Nat → List (Option Obj) :=
  @List.rec Obj (fun _ => Nat → List Nat → List (Option Obj)) (fun _ as => @List.rec Nat (fun _ => List (Option Obj)) [] (fun _ _ _ => [none]) as)
    (fun o _ ih i as => @List.rec Nat (fun _ => List (Option Obj)) [] (fun a r _ => @Bool.rec (fun _ => List (Option Obj)) (ih (Nat.add i 1) (a :: r)) (liveO o :: ih (Nat.add i 1) r) (Nat.beq a i)) as) l
theorem pickAt_ok : ∀ (l : List Obj) (i : Nat) (K : Frag), pickAt l i (K.map (·.1)) = K.map (fun p => some p.2) → ∀ p ∈ K, i ≤ p.1 ∧ (l[p.1 - i]?).bind liveO = some p.2
  | _, _, [], _, p, hp => absurd hp List.not_mem_nil
  | [], i, q :: K, e, p, hp => by
    have e' : [none] = some q.2 :: K.map (fun p => some p.2) := e
    cases e'
  | o :: l, i, q :: K, e, p, hp => by
    have e' : @Bool.rec (fun _ => List (Option Obj)) (pickAt l (i + 1) (q.1 :: K.map (·.1))) (liveO o :: pickAt l (i + 1) (K.map (·.1))) (Nat.beq q.1 i) = some q.2 :: K.map (fun p => some p.2) := e
    have st : ∀ a : Nat, i + 1 ≤ a → (l[a - (i + 1)]?).bind liveO = some p.2 → i ≤ a ∧ ((o :: l)[a - i]?).bind liveO = some p.2 := fun a h1 h2 => by
      refine ⟨by omega, ?_⟩
      rw [show a - i = (a - (i + 1)) + 1 by omega]
      exact h2
    cases h : Nat.beq q.1 i with
    | true =>
      rw [h] at e'
      have e2 : liveO o :: pickAt l (i + 1) (K.map (·.1)) = some q.2 :: K.map (fun p => some p.2) := e'
      have hi := Nat.eq_of_beq_eq_true h
      have h1 := (List.cons.inj e2).1
      rcases List.mem_cons.mp hp with rfl | hp
      · refine ⟨Nat.le_of_eq hi.symm, ?_⟩
        rw [hi, Nat.sub_self, ← h1]
        rfl
      · obtain ⟨a, b⟩ := pickAt_ok l (i + 1) K (List.cons.inj e2).2 p hp
        exact st _ a b
    | false =>
      rw [h] at e'
      obtain ⟨a, b⟩ := pickAt_ok l (i + 1) (q :: K) e' p hp
      exact st _ a b
theorem lookup_mem {K : Frag} {a : Addr} {o : Obj} : K.lookup a = some o → (a, o) ∈ K := by
  induction K with
  | nil => intro h; cases h
  | cons p K ih =>
    intro h
    obtain ⟨b, x⟩ := p
    rw [List.lookup_cons] at h
    cases e : (a == b) with
    | true =>
      rw [e] at h
      have := eq_of_beq e
      subst this
      have := Option.some.inj h
      subst this
      exact List.mem_cons_self
    | false =>
      rw [e] at h
      exact List.mem_cons_of_mem _ (ih h)
theorem inP {K : Params → Frag} {as : List Addr} (e : ∀ P, as = (K P).map (·.1)) (w : World) (s : Shared) (x : pickAt s.heap.objs.toList 0 as = (K w.params).map fun p => some p.2) : InK K w s.heap := by
  intro a o h
  rw [e w.params] at x
  have := (pickAt_ok _ _ _ x _ (lookup_mem h)).2
  rw [Nat.sub_zero, Array.getElem?_toList] at this
  unfold Heap.get?
  cases e : s.heap.objs[a]? with
  | none => rw [e] at this; cases this
  | some z =>
    rw [e] at this
    obtain ⟨c, dd, da, sl⟩ := z
    cases da <;> first | exact this | cases this
noncomputable def kHookP (_ : Unit) (K : Params → Frag) (as : List Addr) (e : ∀ P, as = (K P).map (·.1)) : Hook :=
  ⟨List (Option Obj), fun s => pickAt s.heap.objs.toList 0 as, fun w => (K w.params).map fun p => some p.2, InK K, inP e, InK.keeps⟩
theorem kInP {K : Params → Frag} {as : List Addr} {e : ∀ P, as = (K P).map (·.1)} {w : World} {h : Heap} (Y : (kHookP () K as e).says w h) : (K w.params).In h := Y
end L2
local macro_rules | `(tactic| o_head ($f:ident $k:term $a:term $e:term)) => `(tactic| o_head (L2.kHookP () $k $a $e))
open PySem PySem.W PyProof.Rows
set_option maxRecDepth 100000 in
set_option maxHeartbeats 0 in
theorem PySem.Challenge.cw_rowsbeneath_k68_ends_apart_holds : PySem.Challenge.rw_rowsbeneath_k68_ends_apart.Holds := by
 w_on;o_law;k_head;(case hw=>w_witness2)
 k_fill
 refine L2.wu (l:=PySem.Challenge.rw_rowsbeneath_k68_ends_apart) (n:=63) (k:=28) (x:="_law_script") (CX:=L2.br) (sp:=L3.oy) rfl (by decide) rfl ⟨rfl,by decide,by decide⟩ (fun w h Y=>L2.kInP Y) ?F (fun _ _ a ns hl _ hS=>⟨a,ns,rfl,hS,hl,fun _=>rfl⟩) (fun _ _ _ _ z=>z);case F=>
  intro w mg fa h KX G hmg;refine' L3.EI KX G hmg ?d0 ?d1 ?d2 ?d3 ?d4 ?d5 ?d6 ?d7 ?d8 ?d9 ?d10 ?d11 ?d12 ?d13 ?d14 ?d15 ?d16 ?d17 ?d18 ?d19 ?d20 ?d21 ?d22 ?d23 ?d24 ?d25 ?d26 ?d27 ?d28 ?d29 ?d30 ?d31 ?d32 ?d33 ?d34 ?d35 ?d36 ?d37 ?d38 ?d39 ?d40 ?d41 ?d42 ?d43 ?d44 ?d45 ?d46 ?d47 ?d48 ?d49 ?d50 ?d51 ?d52 ?d53 ?d54 ?d55 ?d56 ?d57 ?d58 ?d59 ?d60 ?d61 ?d62 ?d63 ?d64 ?d65 ?d66 ?d67 ?d68 ?d69 ?d70 ?d71 ?d72 ?d73 ?d74 ?d75 ?d76 ?d77 ?d78 ?d79 ?d80 ?d81 ?d82 ?d83 ?d84 ?d85 ?d86 ?d87 ?d88 ?d89 ?d90 ?d91 ?d92 ?d93 ?d94 ?d95 ?d96 ?d97 ?CR ?IR ?CT ?IT ?CS ?IS ?CW ?IW ?LY ?Lp ?L8 ?Lx ?LZ ?Lq ?L4 ?Ls ?L5 ?Lu ?L0 ?Lr ?LW ?Ln ?LN ?Lj ?LL ?Lh ?L9 ?Ly ?LK ?Lg ?LM ?Li ?LX ?Lo ?L6 ?Lv ?L7 ?Lw ?LU ?Lm ?LS ?Ll ?LQ ?Lk ?MZ ?MV ?M7 ?M0 ?MY ?M5 ?MX ?MW ?M6 ?MT ?Nf ?MR ?MQ ?MU ?MS ?Nc ?Na ?Nk ?Nd ?No ?MO ?Ni ?M9 ?Nj ?MN ?Nh ?MM ?Ng ?Nb ?Nn ?M8 ?dO ?lo ?MP ?dP ?loP ?Nm ?Nl ?dSO ?Nw ?Nu ?Nz ?NB ?NC ?Nv ?Ny ?NE ?Nq ?NG ?Np ?Nr ?Nt ?NH ?ND
  (case d0=>walk_at "def of the top")
  (case d1=>walk_at "def of the top")
  (case d2=>walk_at "def of the top")
  (case d3=>walk_at "def of the top")
  (case d4=>walk_at "def of the top")
  (case d5=>walk_at "def of the top")
  (case d6=>walk_at "def of the top")
  (case d7=>walk_at "def of the top")
  (case d8=>walk_at "def of the top")
  (case d9=>walk_at "def of the top")
  (case d10=>walk_at "def of the top")
  (case d11=>walk_at "def of the top")
  (case d12=>walk_at "def of the top")
  (case d13=>walk_at "def of the top")
  (case d14=>walk_at "def of the top")
  (case d15=>walk_at "def of the top")
  (case d16=>walk_at "def of the top")
  (case d17=>walk_at "def of the top")
  (case d18=>walk_at "def of the top")
  (case d19=>walk_at "def of the top")
  (case d20=>walk_at "def of the top")
  (case d21=>walk_at "def of the top")
  (case d22=>walk_at "def of the top")
  (case d23=>walk_at "def of the top")
  (case d24=>walk_at "def of the top")
  (case d25=>walk_at "def of the top")
  (case d26=>walk_at "def of the top")
  (case d27=>walk_at "def of the top")
  (case d28=>walk_at "def of the top")
  (case d29=>walk_at "def of the top")
  (case d30=>walk_at "def of the top")
  (case d31=>walk_at "def of the top")
  (case d32=>walk_at "def of the top")
  (case d33=>walk_at "def of the top")
  (case d34=>walk_at "def of the top")
  (case d35=>walk_at "def of the top")
  (case d36=>walk_at "def of the top")
  (case d37=>walk_at "def of the top")
  (case d38=>walk_at "def of the top")
  (case d39=>walk_at "def of the top")
  (case d40=>walk_at "def of the top")
  (case d41=>walk_at "def of the top")
  (case d42=>walk_at "def of the top")
  (case d43=>walk_at "def of the top")
  (case d44=>walk_at "def of the top")
  (case d45=>walk_at "def of the top")
  (case d46=>walk_at "def of the top")
  (case d47=>walk_at "def of the top")
  (case d48=>walk_at "def of the top")
  (case d49=>walk_at "def of the top")
  (case d50=>walk_at "def of the top")
  (case d51=>walk_at "def of the top")
  (case d52=>walk_at "def of the top")
  (case d53=>walk_at "def of the top")
  (case d54=>walk_at "def of the top")
  (case d55=>walk_at "def of the top")
  (case d56=>walk_at "def of the top")
  (case d57=>walk_at "def of the top")
  (case d58=>walk_at "def of the top")
  (case d59=>walk_at "def of the top")
  (case d60=>walk_at "def of the top")
  (case d61=>walk_at "def of the top")
  (case d62=>walk_at "def of the top")
  (case d63=>walk_at "def of the top")
  (case d64=>walk_at "def of the top")
  (case d65=>walk_at "def of the top")
  (case d66=>walk_at "def of the top")
  (case d67=>walk_at "def of the top")
  (case d68=>walk_at "def of the top")
  (case d69=>walk_at "def of the top")
  (case d70=>walk_at "def of the top")
  (case d71=>walk_at "def of the top")
  (case d72=>walk_at "def of the top")
  (case d73=>walk_at "def of the top")
  (case d74=>walk_at "def of the top")
  (case d75=>walk_at "def of the top")
  (case d76=>walk_at "def of the top")
  (case d77=>walk_at "def of the top")
  (case d78=>walk_at "def of the top")
  (case d79=>walk_at "def of the top")
  (case d80=>walk_at "def of the top")
  (case d81=>walk_at "def of the top")
  (case d82=>walk_at "def of the top")
  (case d83=>walk_at "def of the top")
  (case d84=>walk_at "def of the top")
  (case d85=>walk_at "def of the top")
  (case d86=>walk_at "def of the top")
  (case d87=>walk_at "def of the top")
  (case d88=>walk_at "def of the top")
  (case d89=>walk_at "def of the top")
  (case d90=>walk_at "def of the top")
  (case d91=>walk_at "def of the top")
  (case d92=>walk_at "def of the top")
  (case d93=>walk_at "def of the top")
  (case d94=>walk_at "def of the top")
  (case d95=>walk_at "def of the top")
  (case d96=>walk_at "def of the top")
  (case d97=>walk_at "def of the top")
  (case CR=>walk_at "class of 3")
  (case IR=>walk_at "def of a class")
  (case CT=>walk_at "class of 8")
  (case IT=>walk_at "def of a class")
  (case CS=>walk_at "class of 7")
  (case IS=>walk_at "def of a class")
  (case CW=>walk_at "class of 3")
  (case IW=>walk_at "def of a class")
  (case LY=>k_is)
  (case Lp=>walk_at "def of a class")
  (case L8=>k_is)
  (case Lx=>walk_at "def of a class")
  (case LZ=>k_is)
  (case Lq=>walk_at "def of a class")
  (case L4=>k_is)
  (case Ls=>walk_at "def of a class")
  (case L5=>k_is)
  (case Lu=>walk_at "def of a class")
  (case L0=>k_is)
  (case Lr=>walk_at "def of a class")
  (case LW=>k_is)
  (case Ln=>walk_at "def of a class")
  (case LN=>k_is)
  (case Lj=>walk_at "def of a class")
  (case LL=>k_is)
  (case Lh=>walk_at "def of a class")
  (case L9=>k_is)
  (case Ly=>walk_at "def of a class")
  (case LK=>k_is)
  (case Lg=>walk_at "def of a class")
  (case LM=>k_is)
  (case Li=>walk_at "def of a class")
  (case LX=>k_is)
  (case Lo=>walk_at "def of a class")
  (case L6=>k_is)
  (case Lv=>walk_at "def of a class")
  (case L7=>k_is)
  (case Lw=>walk_at "def of a class")
  (case LU=>k_is)
  (case Lm=>walk_at "def of a class")
  (case LS=>k_is)
  (case Ll=>walk_at "def of a class")
  (case LQ=>k_is)
  (case Lk=>walk_at "def of a class")
  (case MZ=>k_is)
  (case MV=>k_is)
  (case M7=>k_is)
  (case M0=>k_is)
  (case MY=>k_is)
  (case M5=>k_is)
  (case MX=>k_is)
  (case MW=>k_is)
  (case M6=>k_is)
  (case MT=>k_is)
  (case Nf=>k_is)
  (case MR=>k_is)
  (case MQ=>k_is)
  (case MU=>k_is)
  (case MS=>k_is)
  (case Nc=>k_is)
  (case Na=>k_is)
  (case Nk=>refine' L3.oA ?h;(case h=>k_is))
  (case Nd=>k_is)
  (case No=>refine' L3.zf ?h;(case h=>k_is))
  (case MO=>k_is)
  (case Ni=>refine' L3.A9 ?h;(case h=>k_is))
  (case M9=>k_is)
  (case Nj=>refine' L3.lh ?h;(case h=>k_is))
  (case MN=>k_is)
  (case Nh=>refine' L3.js ?h;(case h=>k_is))
  (case MM=>k_is)
  (case Ng=>refine' L3.oB ?h;(case h=>k_is))
  (case Nb=>k_is)
  (case Nn=>refine' L3.sr ?h;(case h=>k_is))
  (case M8=>k_is)
  (case dO=>refine' L3.EE ?h;(case h=>k_is))
  (case lo=>rfl)
  (case MP=>k_is)
  (case dP=>refine' L3.A7 ?h;(case h=>k_is))
  (case loP=>rfl)
  (case Nm=>refine' L3.zg ?h;(case h=>k_is))
  (case Nl=>refine' L3.zh ?h;(case h=>k_is))
  (case dSO=>walk_at "state_of")
  (case Nw=>k_is)
  (case Nu=>k_is)
  (case Nz=>k_is)
  (case NB=>k_is)
  (case NC=>k_is)
  (case Nv=>k_is)
  (case Ny=>k_is)
  (case NE=>k_is)
  (case Nq=>k_is)
  (case NG=>k_is)
  (case Np=>k_is)
  (case Nr=>k_is)
  (case Nt=>k_is)
  (case NH=>k_is)
  (case ND=>k_is)
