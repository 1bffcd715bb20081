import PyProof.Rows.All
import Wide.All
import OpenK.AllK
import Wide.FinOn
import Lean
import PyProof.EqAt
import PyProof.EqKinds
import PyProof.TupleCall
import PySem.Challenge.RW_rowsbeneath_k07_one_form
set_option Elab.async false
set_option linter.all false
set_option maxRecDepth 100000
set_option maxHeartbeats 0
abbrev ZF:=PySem.W.Frag
section
open PySem PySem.Spec PyProof.Rows
def Gy:=@List.length_append
def Gz:=@List.mem_cons_self
def GA:=@List.getElem?_eq_some_iff
def GB:=@List.length_cons
def GC:=@List.length_map
def GD:=@List.mem_cons_of_mem
def GE:=@Nat.le_refl
def GF:=@List.mem_cons
def GG:=@List.length_take
def GH:=@List.not_mem_nil
def GI:=@Heap.get?_push_of_some
def GJ:=@List.getElem?_eq_getElem
def GK:=@List.map_append
def GL:=@List.length_nil
def GM:=@List.mem_of_getElem?
def GN:=@List.mem_append_right
def GO:=@List.map_cons
def GP:=@List.mem_append
def GQ:=@PySem.F.type_list_append
def GR:=@PySem.F.slot_list_append
def GS:=@PySem.F.plainAttrs_list
def GT:=@Heap.lt_size
def GU:=@Bool.false_ne_true
def GV:=@List.take_length
def GW:=@List.size_toArray
def GX:=@List.take_succ
def GY:=@List.getElem?_map
def GZ:=@Heap.get?_push_size
def G0:=@List.mem_map
def G1:=@List.append_assoc
def G8:=@List.mem_singleton
def G9:=@PySem.F.plainAttrs_str
def Hd:=@Option.some.inj
def He:=@Nat.lt_of_lt_of_le
def Hf:=@PySem.boot_len
def Hg:=@List.getD_eq_getElem?_getD
def Hh:=@List.contains_iff_mem
def Hi:=@PySem.W.mg_of
def Hj:=@Nat.zero_le
def Hk:=@Nat.pow_le_pow_right
def Hl:=@Nat.le_trans
def Hm:=@PySem.F.type_str_join
def Hn:=@PySem.F.slot_str_join
def Ho:=@List.cons_append
def Hq:=@Nat.ne_of_lt
def Hr:=@List.drop_eq_getElem_cons
def Hs:=@PySem.W.mg_none_of
def Ht:=@List.all_eq_true
def Hu:=@List.mem_append_left
def Hv:=@List.getElem_mem
def Hw:=@List.append_nil
def Hx:=@List.take_append_drop
def Hy:=@List.length_drop
def Hz:=@List.map_map
def HB:=@PyProof.Rows.boot_int
def HE:=@List.mem_range
def HF:=@List.take_of_length_le
def HG:=@Bool.eq_iff_iff
def HH:=@PySem.W.kia_one
def HI:=@List.cons.inj
def HJ:=@List.mem_of_mem_take
def HK:=@List.lookup_cons
def HL:=@Int.toNat_natCast
def HM:=@List.map_nil
def HN:=@List.filter_cons_of_pos
def HP:=@List.length_eq_zero_iff
def HQ:=@PyProof.Rows.callWith_type1
def HR:=@List.length_pos_iff
def HU:=@Bool.and_eq_true
def HV:=@Bool.eq_false_iff
def HW:=@List.append_cancel_right
def HX:=@List.flatMap_cons
def HY:=@List.filterMap_cons
def HZ:=@PySem.mem_of_lookup
def Ic:=@Nat.lt_irrefl
def Ie:=@Calls.callWith_builtin
def Ig:=@List.nil_append
def Ih:=@List.mem_filter
def Ii:=@List.length_replicate
def Ij:=@List.find?_cons
def Ik:=@List.getElem?_append_right
def Il:=@Calls.evalArgs_plain
def Im:=@List.getElem?_of_mem
def Io:=@List.getElem?_append_left
def Ip:=@Nat.lt_succ_self
def Iq:=@List.nodup_cons
def Ir:=@List.sum_cons
def Iu:=@PySem.W.callWith_K
def Iv:=@Calls.spliced_cons
def Iw:=@Calls.Constant_str
def Ix:=@List.filter_append
def Iy:=@List.filter_cons_of_neg
def Iz:=@PySem.W.cellsFrom_some
def ID:=@List.nodup_append
def IE:=@List.flatten_cons
def IF:=@Heap.size_push
def IG:=@List.mem_flatMap
def IH:=@List.any_cons
def II:=@Nat.mod_lt
def IJ:=@List.of_mem_zip
def IK:=@Option.map_some
def IL:=@Nat.min_eq_left
def IM:=@Nat.pow_succ
end
set_option hygiene false in
local macro_rules|`(tactic| walk_at "l")=>`(tactic| first|(cases h;subst_vars;rfl)|((repeat rcases h with ⟨_,h⟩);subst_vars;rfl))
set_option hygiene false in
local macro_rules|`(tactic| walk_at "o")=>`(tactic| refine F.ok ZZ (fun vs H Q E h=>by walk_at "l") (fun Jc A outer s H vs Q E hr h=>?_))
set_option hygiene false in
local macro_rules|`(tactic| walk_at "ob")=>`(tactic| refine F.okb ZZ (fun vs H Q E h=>by walk_at "l") (fun Jc A outer s H vs Q E hr h=>?_))
local macro_rules|`(tactic| walk_at "0")=>`(tactic| exact fun _ _ _ _ _ _ us hl=>match us,hl with|[],_=>rfl)
local macro_rules|`(tactic| walk_at "1")=>`(tactic| exact fun _ _ _ _ _ _ us hl=>match us,hl with|[_],_=>rfl)
local macro_rules|`(tactic| walk_at "2")=>`(tactic| exact fun _ _ _ _ _ _ us hl=>match us,hl with|[_,_],_=>rfl)
local macro_rules|`(tactic| walk_at "3")=>`(tactic| exact fun _ _ _ _ _ _ us hl=>match us,hl with|[_,_,_],_=>rfl)
local macro_rules|`(tactic| walk_at "4")=>`(tactic| exact fun _ _ _ _ _ _ us hl=>match us,hl with|[_,_,_,_],_=>rfl)
local macro_rules|`(tactic| walk_at "5")=>`(tactic| exact fun _ _ _ _ _ _ us hl=>match us,hl with|[_,_,_,_,_],_=>rfl)
local macro_rules|`(tactic| walk_at "6")=>`(tactic| exact fun _ _ _ _ _ _ us hl=>match us,hl with|[_,_,_,_,_,_],_=>rfl)
local macro_rules|`(tactic| walk_at "7")=>`(tactic| exact fun _ _ _ _ _ _ us hl=>match us,hl with|[_,_,_,_,_,_,_],_=>rfl)
local macro_rules|`(tactic| walk_at "8")=>`(tactic| exact fun _ _ _ _ _ _ us hl=>match us,hl with|[_,_,_,_,_,_,_,_],_=>rfl)
local macro_rules|`(tactic| walk_at "9")=>`(tactic| exact fun _ _ _ _ _ _ us hl=>match us,hl with|[_,_,_,_,_,_,_,_,_],_=>rfl)
namespace L2
open PySem PySem.Spec PyProof.Rows
abbrev cE:=Sum Int Str
def mF:cE->Value->Bool
 | .inl k,v=>Value.isInt k v
 | .inr x,v=>Value.isStrOf x v
def Ff (w:World):cE->Int
 | .inl k=>hashInt k
 | .inr x=>hashStr w x
theorem cc:∀ {k:cE} {v:Value},mF k v=true->(∃ i t,k=Sum.inl i/\v=Value.int i t)\/(∃ x t,k=Sum.inr x/\v=Value.str x t)
 | .inl i,v,h=>by
  obtain ⟨t,e⟩:=Value.isInt_shape (k:=i) (v:=v) h
  exact .inl ⟨i,t,rfl,e⟩
 | .inr x,v,h=>by
  obtain ⟨t,e⟩:=Value.isStrOf_shape (x:=x) (v:=v) h
  exact .inr ⟨x,t,rfl,e⟩
theorem ux (i:Int) (t:Tok):mF (.inl i) (.int i t)=true:=by simp [mF,Value.isInt]
theorem uy (x:Str) (t:Tok):mF (.inr x) (.str x t)=true:=by simp [mF,Value.isStrOf]
theorem Bk (a b:Int):decide ((Sum.inl a:cE)=Sum.inl b)=(a == b):=by
 by_cases e:a=b
 ·subst e;simp
 ·have h:¬ (Sum.inl a:cE)=Sum.inl b:=fun q=>e (Sum.inl.inj q)
  rw [decide_eq_false h]
  exact (beq_eq_false_iff_ne.mpr e).symm
theorem Bm (a b:Str):decide ((Sum.inr a:cE)=Sum.inr b)=decide (a=b):=by
 by_cases e:a=b
 ·subst e;simp
 ·have h:¬ (Sum.inr a:cE)=Sum.inr b:=fun q=>e (Sum.inr.inj q)
  rw [decide_eq_false h,decide_eq_false e]
theorem Bn (a:Int) (b:Str):decide ((Sum.inl a:cE)=Sum.inr b)=false:=decide_eq_false (fun q=>nomatch q)
theorem Bo (a:Str) (b:Int):decide ((Sum.inr a:cE)=Sum.inl b)=false:=decide_eq_false (fun q=>nomatch q)
def cA (prog:Program) (w:World):PySem.KeyKind prog w cE where
 is:=mF
 hash:=Ff w
 inj:=fun v a b ha hb=>by
  rcases cc ha with ⟨i,t,rfl,rfl⟩|⟨x,t,rfl,rfl⟩
  ·rcases cc hb with ⟨j,u,rfl,e⟩|⟨y,u,rfl,e⟩
   ·injection e with e1 _;rw [e1]
   ·exact nomatch e
  ·rcases cc hb with ⟨j,u,rfl,e⟩|⟨y,u,rfl,e⟩
   ·exact nomatch e
   ·injection e with e1 _;rw [e1]
 byValue:=fun k v h=>by
  rcases cc h with ⟨i,t,rfl,rfl⟩|⟨x,t,rfl,rfl⟩<;>rfl
 pyHash:=fun hv h=>by
  rcases cc hv with ⟨i,t,rfl,rfl⟩|⟨x,t,rfl,rfl⟩
  ·exact wpAny_pyHash_int h
  ·exact wpAny_pyHash_str h
 eqBool:=fun hu hv h=>by
  rcases cc hu with ⟨i,t,rfl,rfl⟩|⟨x,t,rfl,rfl⟩
  ·rcases cc hv with ⟨j,u,rfl,rfl⟩|⟨y,u,rfl,rfl⟩
   ·rw [Bk] at h;exact wpAny_eqBool_int h
   ·rw [Bn] at h;exact SeqAt.EqAt.int_str i t y u _ _ _ _ h
  ·rcases cc hv with ⟨j,u,rfl,rfl⟩|⟨y,u,rfl,rfl⟩
   ·rw [Bo] at h;exact SeqAt.EqAt.str_int x t j u _ _ _ _ h
   ·rw [Bm] at h;exact wpAny_eqBool_str h
 «strs»:=fun k x t v h=>by
  rcases cc h with ⟨i,u,rfl,e⟩|⟨y,u,rfl,e⟩
  ·exact nomatch e
  ·injection e with e1 _
   subst e1
   cases v<;>rfl
theorem pA (prog:Program) (w:World) (i:Int) (t:Tok):(cA prog w).is (.inl i) (.int i t)=true:=ux i t
theorem pB (prog:Program) (w:World) (x:Str) (t:Tok):(cA prog w).is (.inr x) (.str x t)=true:=uy x t
inductive V where
 | non|bl (b:Bool)|int (i:Int)|str (x:Str)|byt (b:Array UInt8)|flt (b:UInt64)|ref (a:Addr)|ty (n:String)
 deriving DecidableEq
def K1:V->Value->Prop
 | .non,u=>u=Value.none
 | .bl b,u=>u=Value.bool b
 | .int i,u=>∃ t,u=Value.int i t
 | .str x,u=>∃ t,u=Value.str x t
 | .byt b,u=>∃ t,u=Value.bytes b t
 | .flt b,u=>∃ t,u=Value.float b t
 | .ref a,u=>u=Value.ref a
 | .ty n,u=>u=Value.type n
abbrev K2:List V->List Value->Prop:=Paired K1
variable {us:List Value} {xs:List V}
theorem K2.length (r:K2 xs us):xs.length=us.length:=Paired.length r
theorem K2.get:∀ {xs:List V} {us:List Value} {i:Nat} {x:V},K2 xs us->xs[i]?=some x->∃ u,us[i]?=some u/\K1 x u
 | _,_,_,_,.nil,e=>by simp at e
 | _,_,0,_,.cons r _,e=>by simp at e;subst e;exact ⟨_,rfl,r⟩
 | _,_,i+1,x,.cons _ t,e=>by
  obtain ⟨u,h1,h2⟩:=K2.get (i:=i) (x:=x) t (by simpa using e)
  exact ⟨u,by simpa using h1,h2⟩
variable {u:Value} {x:V}
theorem K2.set (r:K1 x u):∀ {xs:List V} {us:List Value} (i:Nat),K2 xs us->K2 (xs.set i x) (us.set i u)
 | _,_,_,.nil=>.nil
 | _,_,0,.cons _ t=>.cons r t
 | _,_,i+1,.cons q t=>.cons q (K2.set r i t)
theorem K2.append:∀ {xs ys:List V} {us ws:List Value},K2 xs us->K2 ys ws->K2 (xs++ys) (us++ws)
 | _,_,_,_,.nil,s=>s
 | _,_,_,_,.cons r t,s=>.cons r (K2.append t s)
theorem K2.take:∀ {xs:List V} {us:List Value} (n:Nat),K2 xs us->K2 (xs.take n) (us.take n)
 | _,_,0,_=>.nil
 | _,_,_+1,.nil=>.nil
 | _,_,n+1,.cons r t=>.cons r (K2.take n t)
theorem K2.drop:∀ {xs:List V} {us:List Value} (n:Nat),K2 xs us->K2 (xs.drop n) (us.drop n)
 | _,_,0,r=>r
 | _,_,_+1,.nil=>.nil
 | _,_,n+1,.cons _ t=>K2.drop n t
def LB:Option V->Option Value->Prop
 | some v,some u=>K1 v u
 | none,none=>True
 | _,_=>False
def KV {κ:Type}:List (κ×V)->List (κ×Value)->Prop:=Paired fun (p:κ×V) (q:κ×Value)=>p.1=q.1/\K1 p.2 q.2
def kV:cE->V
 | .inl i=>.int i
 | .inr x=>.str x
inductive HO where
 | lst (xs:List V)
 | tup (xs:List V)
 | dK (kvs:List (cE×V))|dT (kvs:List (List cE×V))
 | set (S:Int->Bool) (n:Nat)
 | ins (C dx:Addr) (fs:List (Str×V))
 | own (x:Addr)
 | xd (fs:List (Str×V))
 | met (f x:Addr)
 | rng (lo hi:Int)
 | frz (o:Obj) (u:HO)
 | tbl (ps:Array Value)
 | ext (φ:Heap->Prop)
abbrev Hp:=Addr->Option HO
def aI (H:Hp) (a:Addr) (o:HO):Hp:=fun b=>if b=a then some o else H b
variable {o:HO} {a:Addr} {H:Hp}
theorem ac:aI H a o a=some o:=by unfold aI;rw [if_pos rfl]
variable {b:Addr}
theorem aw (h:b≠a):aI H a o b=H b:=by unfold aI;rw [if_neg h]
theorem Dw {o u:HO} (h:H a=some o) (h':H b=some u) (d:o≠u):a≠b:=by
 intro e;subst e;rw [h] at h';exact d (Hd h')
theorem aK (h:H a=some o) (h':H b=none):a≠b:=by
 intro e;subst e;rw [h] at h';cases h'
def MF (h:Heap) (a:Addr) (Jf:Array Value):Prop:=∃ o,h.get? a=some o/\(o.cls,o.dict)=(Value.type "tuple",none)/\∃ n,o.data=Data.seq Jf n
variable {Jf:Array Value} {h:Heap}
theorem MF.up (p:MF h a Jf):IsTup h a Jf:=let ⟨o,e,c,d⟩:=p;⟨o,e,(Prod.mk.inj c).1,d⟩
theorem MF.lt (p:MF h a Jf):a < h.objs.size:=let ⟨_,e,_⟩:=p;GT e
theorem MF.new (h:Heap) (Jf:Array Value):MF (h.push { cls:=.type "tuple",data:=.seq Jf }) h.objs.size Jf:=⟨_,GZ _ rfl,rfl,_,rfl⟩
section
variable (P:Program) (w:World)
def K6 (H:Hp) (h:Heap) (a:Addr):HO->Prop
 | .lst xs=>xs.length<=sizeLine/\∃ (its:List Value) (n:Nat),K2 xs its/\h.get? a=some { cls:=.type "list",data:=.seq its.toArray n }
 | .tup xs=>xs.length<=sizeLine/\∃ its:List Value,K2 xs its/\MF h a its.toArray
 | .dK kvs=>kvs.length<=sizeLine/\(a == sysModules)=false/\∃ vs,KV kvs vs/\h.DictOf (cA P w) a vs
 | .dT kvs=>kvs.length<=sizeLine/\(a == sysModules)=false/\∃ xs:List (List cE×Addr×Value),
   Paired (fun (p:List cE×V) (q:List cE×Addr×Value)=>p.1=q.1/\H q.2.1=some (.tup (p.1.map kV))/\K1 p.2 q.2.2) kvs xs /\
   ∃ o es ep,h.get? a=some o/\o.ExactDict/\o.data=.dict es ep/\es.toList=xs.map (entryOfKey (tupleKind (cA P w)))/\(xs.map (·.1)).Nodup
 | .set S n=>h.SetOf (intKind P w) a S n
 | .ins C dx fs=>H dx=some (.own a)/\fs.length<=1000/\dx≠a/\h.get? a=some (PySem.W.instObj C dx) /\
   ∃ mA,h.Ns1 dx mA/\(∀ f,LB (fs.lookup f) (mA f))/\PySem.Within mA (fs.map (·.1))
 | .own _=>∃ o,h.get? a=some o
 | .xd fs=>∃ mA,h.Ns1 a mA/\∀ f,LB (fs.lookup f) (mA f)
 | .rng lo hi=>∃ t u v,h.get? a=some { cls:=.type "range",data:=.fields #[.int lo t,.int hi u,.int 1 v] }
 | .frz o u=>h.get? a=some o/\K6 H h a u
 | .tbl ps=>h.get? a=some { cls:=.none,data:=.fields ps }
 | .met f x=>h.get? a=some (PySem.W.methodObj (.ref f) (.ref x))
 | .ext φ=>φ h/\(∃ o,h.get? a=some o)/\∀ h1 h2:Heap,φ h1->(∀ o,h1.get? a=some o->h2.get? a=some o)->φ h2
def LC (H:Hp) (h:Heap):Prop:=∀ a o,H a=some o->K6 P w H h a o
end
section
variable {P:Program} {w:World} {H H':Hp} {h h':Heap} {a:Addr} {o:HO}
theorem K6.lt (x:K6 P w H h a o):a < h.objs.size:=by
 cases o with
 | lst xs=>obtain ⟨_,_,_,_,e⟩:=x;exact GT e
 | tup xs=>obtain ⟨_,_,_,p⟩:=x;exact p.lt
 | dK kvs=>obtain ⟨_,_,_,_,o,_,_,e,_⟩:=x;exact GT e
 | dT kvs=>obtain ⟨_,_,_,_,o,_,_,e,_⟩:=x;exact GT e
 | set S n=>obtain ⟨o,_,_,_,e,_⟩:=x;exact GT e
 | ins C dx fs=>obtain ⟨_,_,_,e,_⟩:=x;exact GT e
 | own y=>obtain ⟨_,e⟩:=x;exact GT e
 | xd fs=>obtain ⟨_,⟨_,_,_,e,_⟩,_⟩:=x;exact GT e
 | rng lo hi=>obtain ⟨_,_,_,e⟩:=x;exact GT e
 | frz ob u=>obtain ⟨e,_⟩:=x;exact GT e
 | tbl ps=>exact GT (show h.get? a=some _ from x)
 | met f y=>exact GT (show h.get? a=some _ from x)
 | ext φ=>obtain ⟨_,⟨_,e⟩,_⟩:=x;exact GT e
theorem Paired.mapP {α β:Type} {F G:α->β->Prop}:∀ {l₁:List α} {l₂:List β},Paired F l₁ l₂->(∀ a b,F a b->G a b)->Paired G l₁ l₂
 | _,_,.nil,_=>.nil
 | _,_,.cons r t,f=>.cons (f _ _ r) (Paired.mapP t f)
theorem K6.stay (x:K6 P w H h a o) (k:∀ b u,(b=a\/H b=some (.own a))->h.get? b=some u->h'.get? b=some u)
  (ho:∀ b,H b=some (.own a)->H' b=some (.own a)) (ht:∀ b xs,H b=some (.tup xs)->H' b=some (.tup xs)):K6 P w H' h' a o:=by
 induction o with
 | lst xs=>obtain ⟨z,its,n,r,e⟩:=x;exact ⟨z,its,n,r,k _ _ (.inl rfl) e⟩
 | tup xs=>obtain ⟨z,its,r,ob,e,c⟩:=x;exact ⟨z,its,r,ob,k _ _ (.inl rfl) e,c⟩
 | dK kvs=>obtain ⟨z,y,vs,r,ob,es,ep,e,c⟩:=x;exact ⟨z,y,vs,r,ob,es,ep,k _ _ (.inl rfl) e,c⟩
 | dT kvs=>
  obtain ⟨z,y,xs,r,ob,es,ep,e,c⟩:=x
  exact ⟨z,y,xs,Paired.mapP r fun p q z=>⟨z.1,ht _ _ z.2.1,z.2.2⟩,ob,es,ep,k _ _ (.inl rfl) e,c⟩
 | set S n=>obtain ⟨ob,es,ep,t,e,c⟩:=x;exact ⟨ob,es,ep,t,k _ _ (.inl rfl) e,c⟩
 | ins C dx fs=>
  obtain ⟨d,z,ne,e,mA,⟨od,es,ep,e2,c⟩,r⟩:=x
  exact ⟨ho _ d,z,ne,k _ _ (.inl rfl) e,mA,⟨od,es,ep,k _ _ (.inr d) e2,c⟩,r⟩
 | own y=>obtain ⟨ob,e⟩:=x;exact ⟨ob,k _ _ (.inl rfl) e⟩
 | xd fs=>obtain ⟨mA,⟨od,es,ep,e,c⟩,r⟩:=x;exact ⟨mA,⟨od,es,ep,k _ _ (.inl rfl) e,c⟩,r⟩
 | rng lo hi=>obtain ⟨t,u,v,e⟩:=x;exact ⟨t,u,v,k _ _ (.inl rfl) e⟩
 | frz ob u ih=>obtain ⟨e,q⟩:=x;exact ⟨k _ _ (.inl rfl) e,ih q⟩
 | tbl ps=>
  have e:h.get? a=some { cls:=.none,data:=.fields ps }:=x
  show h'.get? a=some { cls:=.none,data:=.fields ps }
  exact k a _ (.inl rfl) e
 | met f y=>
  have e:h.get? a=some (PySem.W.methodObj (.ref f) (.ref y)):=x
  show h'.get? a=some (PySem.W.methodObj (.ref f) (.ref y))
  exact k a _ (.inl rfl) e
 | ext φ=>obtain ⟨p,⟨o,e⟩,st⟩:=x;exact ⟨st _ _ p fun o q=>k _ _ (.inl rfl) q,⟨o,k _ _ (.inl rfl) e⟩,st⟩
theorem LC.lt (x:LC P w H h) (e:H a=some o):a < h.objs.size:=(x a o e).lt
theorem LC.fresh (x:LC P w H h) (e:h.objs.size<=a):H a=none:=by
 cases q:H a with
 | none=>rfl
 | some u=>exact absurd (He (x.lt q) e) (Ic _)
theorem LC.kept (x:LC P w H h) (k:∀ b u,h.get? b=some u->h'.get? b=some u):LC P w H h':=fun a o e=>
 (x a o e).stay (fun b u _ q=>k b u q) (fun _ q=>q) fun _ _ q=>q
theorem LC.laid (x:LC P w H h) (k:∀ b u,h.get? b=some u->h'.get? b=some u) (hp:h.objs.size<=a) (new:K6 P w (aI H a o) h' a o):LC P w (aI H a o) h':=fun b u e=>by
 have hn:=x.fresh hp
 by_cases hb:b=a
 ·subst hb;rw [ac] at e;cases e;exact new
 ·rw [aw hb] at e
  exact (x b u e).stay (fun c v _ q=>k c v q) (fun c q=>by rw [aw (aK q hn)];exact q) fun c xs q=>by rw [aw (aK q hn)];exact q
end
def Rd (H:Hp) (a:Addr) (u:HO):Prop:=H a=some u\/∃ o,H a=some (.frz o u)
variable {w:World} {P:Program}
theorem Rd.ok {u:HO} (r:Rd H a u) (x:LC P w H h):K6 P w H h a u:=by
 rcases r with r|⟨o,r⟩
 ·exact x a u r
 ·obtain ⟨_,q⟩:=x a _ r
  exact q
def Dx:Option HO->Prop
 | some (.lst _)=>True
 | some (.dK _)=>True
 | some (.dT _)=>True
 | some (.set _ _)=>True
 | some (.ins _ _ _)=>True
 | some (.ext _)=>True
 | _=>False
section
variable {P:Program} {w:World} {H:Hp} {h h':Heap} {x e:Addr} {o':HO}
theorem LC.write (ok:LC P w H h) (mu:Dx (H x)) (he:e=x\/H e=some (.own x)) (k:∀ b u,b≠e->h.get? b=some u->h'.get? b=some u) (heo:∃ u,h'.get? e=some u)
  (new:K6 P w (aI H x o') h' x o'):LC P w (aI H x o') h':=fun b u q=>by
 have nown:∀ c y,H c=some (.own y)->c≠x:=fun c y r z=>by subst z;rw [r] at mu;exact mu
 have ntup:∀ c xs,H c=some (.tup xs)->c≠x:=fun c xs r z=>by subst z;rw [r] at mu;exact mu
 by_cases hb:b=x
 ·subst hb;rw [ac] at q;cases q;exact new
 ·rw [aw hb] at q
  by_cases hbe:b=e
  ·have q':H b=some (.own x):=by
    rcases he with z|z
    ·exact absurd (hbe.trans z) hb
    ·rw [hbe];exact z
   rw [q] at q';cases q'
   obtain ⟨v,hv⟩:=heo
   exact ⟨v,by rw [hbe];exact hv⟩
  ·refine (ok b u q).stay (fun c v hc r=>k c v ?_ r) (fun c r=>by rw [aw (nown c b r)];exact r) fun c xs r=>by rw [aw (ntup c xs r)];exact r
   rcases hc with rfl|hc
   ·exact hbe
   ·rintro rfl
    rcases he with z|z
    ·exact nown c b hc z
    ·rw [hc] at z;cases z;exact hb rfl
end
structure Un (fs ex:List Addr) (H H':Hp) (h h':Heap):Prop where
 keep:∀ b o,h.get? b=some o->H b=none->b∉fs->b∉ex->h'.get? b=some o
 slot:∀ b o,h.get? b=some o->H b=none->b∈fs->b∉ex->∃ sl,h'.get? b=some { o with slots:=sl }
 free:∀ b o,h.get? b=some o->H b=none->b∉ex->H' b=none
 there:∀ b o,h.get? b=some o->b∉ex->∃ o',h'.get? b=some o'
 tups:∀ b xs,H b=some (.tup xs)->H' b=some (.tup xs)
 frzs:∀ b o u,H b=some (.frz o u)->H' b=some (.frz o u)
 tbls:∀ b ps,H b=some (.tbl ps)->∃ more,H' b=some (.tbl (ps++more))
section
variable {fs fs' ex ex':List Addr} {H H1 H2:Hp} {h h1 h2 h':Heap} {a x e:Addr} {o:HO}
theorem Un.any (u:Un fs ex H H1 h h1) {ob:Obj} (q:h.get? b=some ob) (n:H b=none) (hx:b∉ex):∃ sl,h1.get? b=some { ob with slots:=sl }:=by
 by_cases hb:b∈fs
 ·exact u.slot b ob q n hb hx
 ·exact ⟨ob.slots,u.keep b ob q n hb hx⟩
theorem Un.kept (k:∀ b u,h.get? b=some u->h'.get? b=some u):Un fs ex H H h h':=
 ⟨fun b ob q _ _ _=>k b ob q,fun b ob q _ _ _=>⟨ob.slots,k b ob q⟩,fun _ _ _ n _=>n,fun b ob q _=>⟨ob,k b ob q⟩,fun _ _ q=>q,fun _ _ _ q=>q,fun _ ps q=>⟨#[],by rw [q];simp⟩⟩
theorem Un.refl:Un fs ex H H h h:=Un.kept fun _ _ q=>q
theorem Un.laid (k:∀ b u,h.get? b=some u->h'.get? b=some u) (hp:h.objs.size<=a) (hn:H a=none):Un fs ex H (aI H a o) h h' where
 keep:=fun b u q _ _ _=>k b u q
 slot:=fun b u q _ _ _=>⟨u.slots,k b u q⟩
 free:=fun b u q n _=>by rw [aw (Hq (He (GT q) hp))];exact n
 there:=fun b u q _=>⟨u,k b u q⟩
 tups:=fun b xs q=>by rw [aw (aK q hn)];exact q
 frzs:=fun b u xs q=>by rw [aw (aK q hn)];exact q
 tbls:=fun b ps q=>⟨#[],by rw [aw (aK q hn),q];simp⟩
theorem Un.write (mu:Dx (H x)) (he:e=x\/H e=some (.own x)) (k:∀ b u,b≠e->h.get? b=some u->h'.get? b=some u) (heo:∃ u,h'.get? e=some u):Un fs ex H (aI H x o) h h':=by
 have hx:∀ b,H b=none->b≠x:=fun b n z=>by subst z;rw [n] at mu;exact mu
 have hb:∀ b,H b=none->b≠e:=fun b n z=>by
  subst z
  rcases he with r|r
  ·exact hx b n r
  ·rw [n] at r;cases r
 have hm:∀ b u,H b=some u->¬ Dx (some u)->b≠x:=fun b u q nm z=>by subst z;rw [q] at mu;exact nm mu
 refine ⟨fun b u q n _ _=>k b u (hb b n) q,fun b u q n _ _=>⟨u.slots,k b u (hb b n) q⟩,fun b u q n _=>by rw [aw (hx b n)];exact n,fun b u q _=>?_,
  fun b xs q=>by rw [aw (hm b _ q fun z=>z)];exact q,fun b u xs q=>by rw [aw (hm b _ q fun z=>z)];exact q,fun b ps q=>⟨#[],by rw [aw (hm b _ q fun z=>z),q];simp⟩⟩
 by_cases hbe:b=e
 ·subst hbe;exact heo
 ·exact ⟨u,k b u hbe q⟩
end
def E8 (h:Heap) (H:Hp):List Addr:=(List.range h.objs.size).filter fun a=>(H a).isSome
def nC (h:Heap) (H:Hp):Heap:=PySem.W.hideAll h (E8 h H)
theorem uz (h:Heap) (H:Hp):(nC h H).objs.size=h.objs.size:=PySem.W.hideAll_size _ _
theorem vI {o:Obj} (e:h.get? b=some o) (n:H b=none):(nC h H).get? b=some o:=
 PySem.W.hideAll_get _ e fun hm=>by
  have q:(H b).isSome=true:=(Ih.mp hm).2
  rw [n] at q;simp at q
theorem yL {o:Obj} (e:(nC h H).get? b=some o):h.get? b=some o/\H b=none:=by
 have e':h.get? b=some o:=PySem.W.of_hideAll (E8 h H) e
 refine ⟨e',?_⟩
 cases q:H b with
 | none=>rfl
 | some x=>
  have hm:b∈E8 h H:=Ih.mpr ⟨HE.mpr (GT e'),by simp [q]⟩
  have z:(nC h H).get? b=none:=PySem.W.hideAll_none (E8 h H) hm
  rw [z] at e;cases e
structure Mod (K:ZF) (mg:Str->Option Value) (base:Heap):Prop where
 kin:K.In base
 glob:base.Ns mainGlobals mg
 blt:∃ mb,base.Ns builtinsNs mb/\∀ x:Str,x≠"__name__"->mb x=bootBuiltins x
 nolimit:base.NoLimit
structure Cx where
 prog:Program
 w:World
 K:ZF
 mg:Str->Option Value
 base:Heap
 A:Around
 N:List Str
 s₀:Shared
 H₀:Hp
 env:Env
 outer:List Env
 stack:List Env
 ex:List Addr
 fn:Str->Bool
 calm:Bool
 pn:List (Addr×Obj)
 xe:Value->Shared->Prop
def uA (l:List Env):List Addr:=l.filterMap (·.frame)
abbrev Cx.fs (X:Cx):List Addr:=uA X.outer
def Dy (sc:Scope) (x:Str):Prop:=sc.names.lookup x=some .local\/sc.names.lookup x=some .cell\/sc.names.lookup x=some .free
def Bp (sc:Scope) (x:Str):Prop:=sc.names.lookup x=some .local\/sc.names.lookup x=some .cell
def Fg (env:Env) (h:Heap) (m:Str->Option Value) (x:Str) (u:Value):Prop:=
 (env.kindOf x=some .local/\m x=some u)\/((env.kindOf x=some .cell\/env.kindOf x=some .free)/\∃ c,env.cells.lookup x=some c/\h.IsCell c (some u))
structure Cx.Ok (X:Cx):Prop where
 mod:Mod X.K X.mg X.base
 kind:X.env.scope.kind=.function
 glob:X.env.globals=mainGlobals
 blt:X.env.builtins=builtinsNs
 above:X.s₀.heap.objs.size<=X.env.locals
 inj:∀ x y c,X.env.cells.lookup x=some c->X.env.cells.lookup y=some c->x=y
 has:∀ x,(X.env.kindOf x=some .cell\/X.env.kindOf x=some .free)->∃ c,X.env.cells.lookup x=some c
 cab:∀ x c,X.fn x=true->X.env.cells.lookup x=some c->X.s₀.heap.objs.size<=c
 hd:X.calm=true->X.A.handled=none
 frames:X.A.frames=some X.stack
 stk:X.stack=X.outer\/(X.stack=X.env::X.outer/\X.env.frame=some X.env.locals)
 exf:∀ b∈X.ex,b≠X.env.locals/\∀ x c,X.env.cells.lookup x=some c->c≠b
 bs:∀ b o,X.base.get? b=some o->X.s₀.heap.get? b=some o/\X.H₀ b=none
 bsz:X.base.objs.size<=X.s₀.heap.objs.size
 noex:∀ b o,X.base.get? b=some o->b∉X.ex
 exfs:∀ b∈X.ex,b∉X.fs
 funs:X.s₀.heap.FunFrames X.base X.outer
 frf:∀ b∈X.fs,X.H₀ b=none
structure KQ (X:Cx) (IP:List (Addr×Obj)) (σ:List (Option V)) (H:Hp) (s:Shared):Prop where
 ok:X.Ok
 os:s.os=X.s₀.os
 bare:AllBare s.gens
 base:Un X.fs X.ex X.H₀ H X.s₀.heap s.heap
 loc:∃ m,s.heap.Ns X.env.locals m/\∀ (i:Nat) (x:Str) (v:V),X.N[i]?=some x->σ[i]?=some (some v)->Dy X.env.scope x->∃ u,K1 v u/\Fg X.env s.heap m x u
 cell:∀ x c,X.env.cells.lookup x=some c->∃ v,s.heap.IsCell c v
 free:H X.env.locals=none
 freeC:∀ x c,X.env.cells.lookup x=some c->H c=none
 pin:∀ p∈X.pn++IP,s.heap.get? p.1=some p.2/\H p.1=none/\p.1≠X.env.locals/\p.1∉X.fs/\∀ v,p.2.data≠.cell v
 hok:LC X.prog X.w H s.heap
 len:σ.length=X.N.length
section
variable {X:Cx} {IP:List (Addr×Obj)} {σ:List (Option V)} {H H':Hp} {s:Shared} {h':Heap}
theorem Cx.Ok.nofr (ok:X.Ok) {o:Obj} (e:X.base.get? b=some o):b∉X.fs:=fun hb=>by
 have:=(ok.funs.mem hb).1
 rw [e] at this;cases this
theorem KQ.bs (I:KQ X IP σ H s):∀ b o,X.base.get? b=some o->s.heap.get? b=some o/\H b=none:=fun b o e=>
 ⟨I.base.keep b o (I.ok.bs b o e).1 (I.ok.bs b o e).2 (I.ok.nofr e) (I.ok.noex b o e),I.base.free b o (I.ok.bs b o e).1 (I.ok.bs b o e).2 (I.ok.noex b o e)⟩
theorem KQ.bk (I:KQ X IP σ H s):∀ b o,X.base.get? b=some o->s.heap.get? b=some o:=fun b o e=>(I.bs b o e).1
theorem KQ.mod (I:KQ X IP σ H s):Mod X.K X.mg X.base:=I.ok.mod
theorem KQ.kIn (I:KQ X IP σ H s):X.K.In s.heap:=I.ok.mod.kin.keeps I.bk
theorem KQ.lt (I:KQ X IP σ H s):X.env.locals < s.heap.objs.size:=let ⟨_,hn,_⟩:=I.loc;hn.lt
theorem KQ.sz (I:KQ X IP σ H s):X.s₀.heap.objs.size<=s.heap.objs.size:=Hl I.ok.above (Nat.le_of_lt I.lt)
theorem KQ.nofs (I:KQ X IP σ H s) (h:s.heap.objs.size<=a):a∉X.fs:=fun hb=>by
 obtain ⟨_,o,ho,_⟩:=I.ok.funs.mem hb
 exact absurd (He (GT ho) (Hl I.sz h)) (Ic _)
theorem KQ.cne (I:KQ X IP σ H s):∀ x c,X.env.cells.lookup x=some c->c≠X.env.locals:=fun x c e z=>by
 obtain ⟨v,o,ho,hd⟩:=I.cell x c e
 obtain ⟨m,⟨o',es,ep,ho',hd',_⟩,_⟩:=I.loc
 rw [z,ho'] at ho;cases ho;rw [hd'] at hd;cases hd
theorem KQ.funs (I:KQ X IP σ H s):s.heap.FunFrames X.base X.outer:=by
 have all:∀ (l:List Env),(∀ b∈uA l,b∈X.fs)->X.s₀.heap.FunFrames X.base l->s.heap.FunFrames X.base l:=by
  intro l
  induction l with
  | nil=>intro _ _;trivial
  | cons env r ih=>
   intro hs hl
   obtain ⟨hk,⟨L,o,hf,hn,ho,hd⟩,hr⟩:=hl
   have hL:L∈X.fs:=hs L (by unfold uA;rw [HY,hf];exact Gz)
   obtain ⟨sl,e⟩:=I.base.slot L o ho (I.ok.frf L hL) hL fun z=>I.ok.exfs L z hL
   exact ⟨hk,⟨L,_,hf,hn,e,hd⟩,ih (fun b hb=>hs b (by unfold uA;rw [HY,hf];exact GD _ hb)) hr⟩
 exact all X.outer (fun _ hb=>hb) I.ok.funs
theorem KQ.stack (I:KQ X IP σ H s):s.heap.FunFrames X.base X.stack:=by
 rcases I.ok.stk with e|⟨e,hf⟩
 ·rw [e];exact I.funs
 ·rw [e]
  obtain ⟨m,hn,_⟩:=I.loc
  refine .cons (by rw [I.ok.kind];decide) hf hn ?_ I.funs
  exact Heap.get?_none_of_le (Hl I.ok.bsz I.ok.above)
theorem KQ.stkSub (I:KQ X IP σ H s):∀ b∈uA X.stack,b∈X.env.locals::X.fs:=fun b hb=>by
 rcases I.ok.stk with e|⟨e,hf⟩
 ·rw [e] at hb;exact GD _ hb
 ·rw [e] at hb
  unfold uA at hb
  rw [HY,hf] at hb
  exact hb
theorem KQ.stkFree (I:KQ X IP σ H s):∀ b∈uA X.stack,H b=none:=fun b hb=>by
 rcases GF.mp (I.stkSub b hb) with e|hb
 ·rw [e];exact I.free
 ·obtain ⟨_,o,ho,_⟩:=I.ok.funs.mem hb
  exact I.base.free b o ho (I.ok.frf b hb) fun z=>I.ok.exfs b z hb
theorem KQ.step {g':Array GenState} {t':Nat} {d':Drawn} {ch:List Addr} (I:KQ X IP σ H s)
  (hch:∀ b∈ch,(b∈X.ex\/X.s₀.heap.objs.size<=b)/\b≠X.env.locals/\(∀ x c,X.env.cells.lookup x=some c->c≠b)/\∀ p∈X.pn++IP,p.1≠b)
  (keep:∀ b o,b≠X.env.locals->b∉X.fs->b∉ch->s.heap.get? b=some o->H b=none->h'.get? b=some o)
  (slot:∀ b o,b≠X.env.locals->b∈X.fs->b∉ch->s.heap.get? b=some o->H b=none->∃ sl,h'.get? b=some { o with slots:=sl }) (free:∀ b o,b∉ch->s.heap.get? b=some o->H b=none->H' b=none)
  (there:∀ b o,b∉ch->s.heap.get? b=some o->∃ o',h'.get? b=some o')
  (tups:∀ b xs,H b=some (.tup xs)->H' b=some (.tup xs)) (frzs:∀ b o u,H b=some (.frz o u)->H' b=some (.frz o u)) (tbls:∀ b ps,H b=some (.tbl ps)->∃ more,H' b=some (.tbl (ps++more)))
  (ns:∀ m,s.heap.Ns X.env.locals m->h'.Ns X.env.locals m) (hok:LC X.prog X.w H' h') (hg:AllBare g') :
  KQ X IP σ H' { s with heap:=h',gens:=g',drawn:=d',toks:=t' }:=by
 have neL:∀ b o,X.s₀.heap.get? b=some o->b≠X.env.locals:=fun b o e=>Hq (He (GT e) I.ok.above)
 have neC:∀ b o,X.s₀.heap.get? b=some o->b∉X.ex->b∉ch:=fun b o e hx hb=>by
  rcases (hch b hb).1 with z|z
  ·exact hx z
  ·exact absurd (He (GT e) z) (Ic _)
 have cellK:∀ x c,X.env.cells.lookup x=some c->∀ v,s.heap.IsCell c v->h'.IsCell c v:=fun x c e v ⟨o,ho,hd⟩=>by
  have nch:c∉ch:=fun z=>(hch c z).2.2.1 x c e rfl
  by_cases hc:c∈X.fs
  ·obtain ⟨sl,q⟩:=slot c o (I.cne x c e) hc nch ho (I.freeC x c e)
   exact ⟨_,q,hd⟩
  ·exact ⟨o,keep c o (I.cne x c e) hc nch ho (I.freeC x c e),hd⟩
 refine ⟨I.ok,I.os,hg,⟨fun b o e n hb hx=>?_,fun b o e n hb hx=>?_,fun b o e n hx=>?_,fun b o e hx=>?_,fun b xs e=>tups b xs (I.base.tups b xs e),fun b o xs e=>frzs b o xs (I.base.frzs b o xs e),fun b ps e=>?_⟩,?_,fun x c e=>?_,?_,fun x c e=>?_,fun p hp=>?_,hok,I.len⟩
 ·exact keep b o (neL b o e) hb (neC b o e hx) (I.base.keep b o e n hb hx) (I.base.free b o e n hx)
 ·obtain ⟨sl,e1⟩:=I.base.slot b o e n hb hx
  obtain ⟨sl',e2⟩:=slot b _ (neL b o e) hb (neC b o e hx) e1 (I.base.free b o e n hx)
  exact ⟨sl',e2⟩
 ·obtain ⟨o',e1⟩:=I.base.there b o e hx
  exact free b o' (neC b o e hx) e1 (I.base.free b o e n hx)
 ·obtain ⟨o',e1⟩:=I.base.there b o e hx
  exact there b o' (neC b o e hx) e1
 ·obtain ⟨m1,e1⟩:=I.base.tbls b ps e
  obtain ⟨m2,e2⟩:=tbls b _ e1
  exact ⟨m1++m2,by rw [e2,Array.append_assoc]⟩
 ·obtain ⟨m,hn,hl⟩:=I.loc
  refine ⟨m,ns m hn,fun i x v e1 e2 e3=>?_⟩
  obtain ⟨u,r,l⟩:=hl i x v e1 e2 e3
  refine ⟨u,r,?_⟩
  rcases l with l|⟨k,c,e,z⟩
  ·exact .inl l
  ·exact .inr ⟨k,c,e,cellK x c e _ z⟩
 ·obtain ⟨v,z⟩:=I.cell x c e
  exact ⟨v,cellK x c e v z⟩
 ·obtain ⟨m,⟨o,_,_,ho,_⟩,_⟩:=I.loc
  exact free _ o (fun z=>(hch _ z).2.1 rfl) ho I.free
 ·obtain ⟨v,o,ho,hd⟩:=I.cell x c e
  exact free c o (fun z=>(hch c z).2.2.1 x c e rfl) ho (I.freeC x c e)
 ·obtain ⟨e,n,ne,nf,d⟩:=I.pin p hp
  have nch:p.1∉ch:=fun z=>(hch p.1 z).2.2.2 p hp rfl
  exact ⟨keep p.1 p.2 ne nf nch e n,free p.1 p.2 nch e n,ne,nf,d⟩
theorem KQ.un {t':Nat} (I:KQ X IP σ H s) (u:Un X.fs [] H H' s.heap h') (hok:LC X.prog X.w H' h'):KQ X IP σ H' { s with heap:=h',toks:=t' }:=by
 obtain ⟨m,⟨o,es,ep,ho,r⟩,_⟩:=id I.loc
 obtain ⟨sl,hL⟩:=u.any ho I.free (by simp)
 exact I.step (g':=s.gens) (d':=s.drawn) (ch:=[]) (fun _ z=>nomatch z) (fun b o _ hb _ e n=>u.keep b o e n hb (by simp)) (fun b o _ hb _ e n=>u.slot b o e n hb (by simp)) (fun b o _ e n=>u.free b o e n (by simp)) (fun b o _ e=>u.there b o e (by simp)) u.tups u.frzs u.tbls (fun m' hm=>by
  obtain ⟨o',es',ep',ho',r'⟩:=hm
  rw [ho] at ho';cases ho'
  exact ⟨_,es',ep',hL,r'⟩) hok I.bare
variable {ch:List Addr}
theorem KQ.call {g':Array GenState} {t':Nat} {d':Drawn} (I:KQ X IP σ H s) (u:Un (uA X.stack) ch H H' s.heap h') (hok:LC X.prog X.w H' h') (hg:AllBare g')
  (hch:∀ b∈ch,(b∈X.ex\/X.s₀.heap.objs.size<=b)/\b≠X.env.locals/\(∀ x c,X.env.cells.lookup x=some c->c≠b)/\∀ p∈X.pn++IP,p.1≠b) :
  KQ X IP σ H' { s with heap:=h',gens:=g',drawn:=d',toks:=t' }:=by
 obtain ⟨m,⟨o,es,ep,ho,r⟩,_⟩:=id I.loc
 obtain ⟨sl,hL⟩:=u.any ho I.free fun z=>(hch _ z).2.1 rfl
 exact I.step (ch:=ch) hch (fun b o hL hb hc e n=>u.keep b o e n (fun z=>(GF.mp (I.stkSub b z)).elim hL hb) hc) (fun b o _ _ hc e n=>u.any e n hc) (fun b o hc e n=>u.free b o e n hc) (fun b o hc e=>u.there b o e hc) u.tups u.frzs u.tbls (fun m' hm=>by
  obtain ⟨o',es',ep',ho',r'⟩:=hm
  rw [ho] at ho';cases ho'
  exact ⟨_,es',ep',hL,r'⟩) hok hg
theorem KQ.turned {t':Nat} {it:Addr} (I:KQ X IP σ H s) (k:∀ b o,b≠it->s.heap.get? b=some o->h'.get? b=some o) (hn:H it=none) (hL:it≠X.env.locals)
  (h1:it∈X.ex\/X.s₀.heap.objs.size<=it) (h2:∀ x c,X.env.cells.lookup x=some c->c≠it) (h3:∀ p∈X.pn++IP,p.1≠it):KQ X IP σ H { s with heap:=h',toks:=t' }:=by
 have nit:∀ b u,H b=some u->b≠it:=fun b u e z=>by rw [z,hn] at e;cases e
 refine I.step (g':=s.gens) (d':=s.drawn) (ch:=[it]) (fun b hb=>?_) (fun b o _ _ hc e _=>k b o (fun z=>hc (by simp [z])) e) (fun b o _ _ hc e _=>⟨o.slots,k b o (fun z=>hc (by simp [z])) e⟩) (fun _ _ _ _ n=>n)
  (fun b o hc e=>⟨o,k b o (fun z=>hc (by simp [z])) e⟩) (fun _ _ e=>e) (fun _ _ _ e=>e) (fun b ps e=>⟨#[],by rw [e];simp⟩) (fun m hm=>?_) (fun b u e=>?_) I.bare
 ·have e:b=it:=by simpa using hb
  subst e
  exact ⟨h1,hL,h2,h3⟩
 ·obtain ⟨o,es,ep,ho,r⟩:=hm
  exact ⟨o,es,ep,k _ o (Ne.symm hL) ho,r⟩
 ·refine (I.hok b u e).stay (fun c v hc q=>k c v ?_ q) (fun _ q=>q) fun _ _ q=>q
  rcases hc with z|z
  ·rw [z];exact nit b u e
  ·exact nit c _ z
theorem KQ.tok (I:KQ X IP σ H s) (t:Nat):KQ X IP σ H { s with toks:=t }:=I.un (h':=s.heap) (t':=t) Un.refl I.hok
theorem KQ.kept {t':Nat} (I:KQ X IP σ H s) (k:∀ b u,s.heap.get? b=some u->h'.get? b=some u):KQ X IP σ H { s with heap:=h',toks:=t' }:=I.un (Un.kept k) (I.hok.kept k)
theorem KQ.laid {t':Nat} (I:KQ X IP σ H s) (k:∀ b u,s.heap.get? b=some u->h'.get? b=some u) (hp:s.heap.objs.size<=a) (new:K6 X.prog X.w (aI H a o) h' a o) :
  KQ X IP σ (aI H a o) { s with heap:=h',toks:=t' }:=I.un (Un.laid k hp (I.hok.fresh hp)) (I.hok.laid k hp new)
theorem KQ.write {x e:Addr} {o:HO} {t':Nat} (I:KQ X IP σ H s) (mu:Dx (H x)) (he:e=x\/H e=some (.own x)) (k:∀ b u,b≠e->s.heap.get? b=some u->h'.get? b=some u) (heo:∃ u,h'.get? e=some u)
  (new:K6 X.prog X.w (aI H x o) h' x o):KQ X IP σ (aI H x o) { s with heap:=h',toks:=t' }:=I.un (Un.write mu he k heo) (I.hok.write mu he k heo new)
theorem KQ.weak {σ':List (Option V)} (I:KQ X IP σ H s) (hl:σ'.length=σ.length) (w:∀ (i:Nat) v,σ'[i]?=some (some v)->σ[i]?=some (some v)):KQ X IP σ' H s:=
 ⟨I.ok,I.os,I.bare,I.base,let ⟨m,hn,hl'⟩:=I.loc;⟨m,hn,fun i x v e1 e2 e3=>hl' i x v e1 (w i v e2) e3⟩,I.cell,I.free,I.freeC,I.pin,I.hok,hl.trans I.len⟩
theorem KQ.pins_of {pins':List (Addr×Obj)} (I:KQ X IP σ H s) (h:∀ p∈pins',s.heap.get? p.1=some p.2/\H p.1=none/\p.1≠X.env.locals/\p.1∉X.fs/\∀ v,p.2.data≠.cell v):KQ X pins' σ H s:=
 ⟨I.ok,I.os,I.bare,I.base,I.loc,I.cell,I.free,I.freeC,fun p hp=>(GP.mp hp).elim (fun z=>I.pin p (Hu _ z)) (h p),I.hok,I.len⟩
variable {i j:Nat}
theorem pC {N:List Str} (hN:N.Nodup) {x:Str} (a:N[i]?=some x) (b:N[j]?=some x):i=j:=by
 obtain ⟨h1,e1⟩:=GA.mp a
 obtain ⟨h2,e2⟩:=GA.mp b
 exact (List.getElem_inj hN).mp (e1.trans e2.symm)
variable {v:V}
theorem mG {M:Model} {A:Around} {E:Value->Shared->Prop} {x:Str} {Q:Unit->Shared->Prop} (I:KQ X IP σ H s) (hN:X.N.Nodup) (hi:X.N[i]?=some x) (hx:Bp X.env.scope x) (r:K1 v u)
  (h:∀ s',KQ X IP (σ.set i (some v)) H s'->(∃ a,Heap.SameBut a s.heap s'.heap/\(a=X.env.locals\/X.env.cells.lookup x=some a))->Q () s') (hf:X.fn x=true\/X.env.scope.names.lookup x=some .local:=by first|exact .inl rfl|exact .inr rfl|assumption):wpAny M A (storeName X.env x u) Q E s:=by
 obtain ⟨m,hn,hl⟩:=id I.loc
 have hcls:(X.env.scope.kind == .class || (X.env.scope.kind == .module && X.env.locals != X.env.globals))=false:=by rw [I.ok.kind];rfl
 have hiσ:i < σ.length:=by rw [I.len];exact (GA.mp hi).1
 have cne:=I.cne
 have tracked:∀ {a:Addr} {h':Heap},(∃ o,s.heap.get? a=some o/\H a=none)->Heap.SameBut a s.heap h'->LC X.prog X.w H h':=fun {a h'} ha hs b ob e=>by
  obtain ⟨_,_,hfree⟩:=ha
  refine (I.hok b ob e).stay (fun c w' hc q=>(hs.2 c ?_).trans q) (fun _ q=>q) fun _ _ q=>q
  rintro rfl
  rcases hc with rfl|hc
  ·rw [hfree] at e;cases e
  ·rw [hfree] at hc;cases hc
 rcases hx with hk|hk
 ·refine wpAny_storeName_local hk hn (fun h' hn' hs=>?_) hcls
  obtain ⟨oL,_,_,hoL,_⟩:=id hn
  refine h _ ⟨I.ok,I.os,I.bare,⟨fun b o e n hb hx=>?_,fun b o e n hb hx=>?_,I.base.free,fun b o e hx=>?_,I.base.tups,I.base.frzs,I.base.tbls⟩,⟨_,hn',fun j y v' e1 e2 e3=>?_⟩,fun y c e=>?_,I.free,I.freeC,fun p hp=>?_,tracked ⟨oL,hoL,I.free⟩ hs,by simpa using I.len⟩ ⟨_,hs,.inl rfl⟩
  ·exact (hs.2 b (Hq (He (GT e) I.ok.above))).trans (I.base.keep b o e n hb hx)
  ·obtain ⟨sl,e1⟩:=I.base.slot b o e n hb hx
   exact ⟨sl,(hs.2 b (Hq (He (GT e) I.ok.above))).trans e1⟩
  ·obtain ⟨o',e1⟩:=I.base.there b o e hx
   exact ⟨o',(hs.2 b (Hq (He (GT e) I.ok.above))).trans e1⟩
  ·by_cases hj:j=i
   ·subst hj
    rw [hi] at e1;cases e1
    rw [List.getElem?_set_self hiσ] at e2
    cases e2
    exact ⟨u,r,.inl ⟨hk,by simp⟩⟩
   ·rw [List.getElem?_set_ne (Ne.symm hj)] at e2
    obtain ⟨u',r',q⟩:=hl j y v' e1 e2 e3
    refine ⟨u',r',?_⟩
    rcases q with ⟨k,e⟩|⟨k,c,e,z⟩
    ·refine .inl ⟨k,?_⟩
     have:y≠x:=fun e=>hj (pC hN e1 (e ▸ hi))
     simp [this,e]
    ·exact .inr ⟨k,c,e,z.sameBut hs (cne y c e)⟩
  ·obtain ⟨w',z⟩:=I.cell y c e
   exact ⟨w',z.sameBut hs (cne y c e)⟩
  ·obtain ⟨e,n,ne,nf,d⟩:=I.pin p hp
   exact ⟨(hs.2 p.1 ne).trans e,n,ne,nf,d⟩
 ·have hfn:X.fn x=true:=by
   rcases hf with z|z
   ·exact z
   ·rw [z] at hk;cases hk
  obtain ⟨c,hc⟩:=I.ok.has x (.inl hk)
  obtain ⟨w',z⟩:=I.cell x c hc
  refine wpAny_storeName_cell I.ok.kind hk hc z (fun h' hc' hs=>?_)
  obtain ⟨oc,hoc,hocd⟩:=id z
  refine h { s with heap:=h' } ⟨I.ok,I.os,I.bare,⟨fun b o e n hb hx=>?_,fun b o e n hb hx=>?_,I.base.free,fun b o e hx=>?_,I.base.tups,I.base.frzs,I.base.tbls⟩,⟨m,hn.sameBut hs (Ne.symm (cne x c hc)),fun j y v' e1 e2 e3=>?_⟩,fun y c' e=>?_,I.free,I.freeC,fun p hp=>?_,tracked ⟨oc,hoc,I.freeC x c hc⟩ hs,by simpa using I.len⟩ ⟨c,hs,.inr hc⟩
  ·exact (hs.2 b (Hq (He (GT e) (I.ok.cab x c hfn hc)))).trans (I.base.keep b o e n hb hx)
  ·obtain ⟨sl,e1⟩:=I.base.slot b o e n hb hx
   exact ⟨sl,(hs.2 b (Hq (He (GT e) (I.ok.cab x c hfn hc)))).trans e1⟩
  ·obtain ⟨o',e1⟩:=I.base.there b o e hx
   exact ⟨o',(hs.2 b (Hq (He (GT e) (I.ok.cab x c hfn hc)))).trans e1⟩
  ·by_cases hj:j=i
   ·subst hj
    rw [hi] at e1;cases e1
    rw [List.getElem?_set_self hiσ] at e2
    cases e2
    exact ⟨u,r,.inr ⟨.inl hk,c,hc,hc'⟩⟩
   ·rw [List.getElem?_set_ne (Ne.symm hj)] at e2
    obtain ⟨u',r',q⟩:=hl j y v' e1 e2 e3
    refine ⟨u',r',?_⟩
    rcases q with q|⟨k,c',e,z'⟩
    ·exact .inl q
    ·refine .inr ⟨k,c',e,z'.sameBut hs ?_⟩
     rintro rfl
     exact hj (pC hN e1 (I.ok.inj _ _ _ e hc ▸ hi))
  ·by_cases hcc:c'=c
   ·subst hcc;exact ⟨_,hc'⟩
   ·obtain ⟨w2,z2⟩:=I.cell y c' e
    exact ⟨w2,z2.sameBut hs hcc⟩
  ·obtain ⟨e,n,ne,nf,d⟩:=I.pin p hp
   refine ⟨(hs.2 p.1 ?_).trans e,n,ne,nf,d⟩
   intro q
   rw [q,hoc] at e
   have q':oc=p.2:=Hd e
   exact d w' (by rw [<-q'];exact hocd)
theorem fS {M:Model} {A:Around} {E:Value->Shared->Prop} {x:Str} {Q:Unit->Shared->Prop} (I:KQ X IP σ H s) (hN:X.N.Nodup) (hi:X.N[i]?=some x) (hx:Bp X.env.scope x) (r:K1 v u)
  (h:∀ s',KQ X IP (σ.set i (some v)) H s'->Q () s') (hf:X.fn x=true\/X.env.scope.names.lookup x=some .local:=by first|exact .inl rfl|exact .inr rfl|assumption):wpAny M A (storeName X.env x u) Q E s:=
 mG I hN hi hx r (fun s' I' _=>h s' I') hf
theorem KQ.call' {s':Shared} (I:KQ X IP σ H s) (ho:s'.os=s.os) (u:Un (uA X.stack) ch H H' s.heap s'.heap) (hok:LC X.prog X.w H' s'.heap) (hg:AllBare s'.gens)
  (hch:∀ b∈ch,(b∈X.ex\/X.s₀.heap.objs.size<=b)/\b≠X.env.locals/\(∀ x c,X.env.cells.lookup x=some c->c≠b)/\∀ p∈X.pn++IP,p.1≠b):KQ X IP σ H' s':=by
 obtain ⟨h',g',d',t',o'⟩:=s'
 have e:o'=s.os:=ho
 subst e
 exact I.call (g':=g') (t':=t') (d':=d') u hok hg hch
end
abbrev XK:=Value->Option Addr->Hp->Prop
abbrev St:=List (Option V)
abbrev VK:=V->Hp->Prop
abbrev TE:=St->Hp->VK->Prop
abbrev TT:=St->Hp->(Bool->Hp->Prop)->Prop
abbrev TA:=St->Hp->(List V->Hp->Prop)->Prop
structure dJ where
 nx:St->Hp->Prop
 rt:VK
 bk:St->Hp->Prop:=fun _ _=>False
 ct:St->Hp->Prop:=fun _ _=>False
abbrev TS:=dJ->St->Hp->Prop
inductive EP (X:Cx) (IP:List (Addr×Obj)) (σ:St) (Q:VK) (u:Value) (s':Shared):Prop
 | mk (v H':_):KQ X IP σ H' s'->K1 v u->Q v H'->EP X IP σ Q u s'
def TP (X:Cx) (IP:List (Addr×Obj)) (σ:St) (Q:Bool->Hp->Prop) (b:Bool) (s':Shared):Prop:=∃ H',KQ X IP σ H' s'/\Q b H'
inductive AP (X:Cx) (IP:List (Addr×Obj)) (σ:St) (Q:List V->Hp->Prop) (us:List Value) (s':Shared):Prop
 | mk (vs H':_):KQ X IP σ H' s'->K2 vs us->Q vs H'->AP X IP σ Q us s'
def SP (X:Cx) (IP:List (Addr×Obj)) (D:dJ) (f:Flow) (s':Shared):Prop:=
 match f with
 | .next=>∃ σ' H',KQ X IP σ' H' s'/\D.nx σ' H'
 | .brk=>∃ σ' H',KQ X IP σ' H' s'/\D.bk σ' H'
 | .cont=>∃ σ' H',KQ X IP σ' H' s'/\D.ct σ' H'
 | .ret u=>∃ v σ' H',KQ X IP σ' H' s'/\K1 v u/\D.rt v H'
structure PE (X:Cx) (e:Expr) (t:TE):Prop where
 run:∀ (IP:List (Addr×Obj)) (s:Shared) (σ:St) (H:Hp) (Q:VK),KQ X IP σ H s->t σ H Q->wpAny (model X.prog X.w) X.A (eval e X.env) (EP X IP σ Q) X.xe s
instance {X:Cx} {e:Expr} {t:TE}:CoeFun (PE X e t) fun _=>∀ (IP:List (Addr×Obj)) (s:Shared) (σ:St) (H:Hp) (Q:VK),KQ X IP σ H s->t σ H Q->wpAny (model X.prog X.w) X.A (eval e X.env) (EP X IP σ Q) X.xe s:=⟨PE.run⟩
structure PT (X:Cx) (e:Expr) (t:TT):Prop where
 run:∀ (IP:List (Addr×Obj)) (s:Shared) (σ:St) (H:Hp) (Q:Bool->Hp->Prop),KQ X IP σ H s->t σ H Q->wpAny (model X.prog X.w) X.A (isTrue e X.env (eval e X.env)) (TP X IP σ Q) X.xe s
instance {X:Cx} {e:Expr} {t:TT}:CoeFun (PT X e t) fun _=>∀ (IP:List (Addr×Obj)) (s:Shared) (σ:St) (H:Hp) (Q:Bool->Hp->Prop),KQ X IP σ H s->t σ H Q->wpAny (model X.prog X.w) X.A (isTrue e X.env (eval e X.env)) (TP X IP σ Q) X.xe s:=⟨PT.run⟩
structure PW (X:Cx) (e:Expr) (t:TT):Prop where
 run:∀ (whole:Sem Value) (IP:List (Addr×Obj)) (s:Shared) (σ:St) (H:Hp) (Q:Bool->Hp->Prop),KQ X IP σ H s->t σ H Q->wpAny (model X.prog X.w) X.A (isTrue e X.env whole) (TP X IP σ Q) X.xe s
instance {X:Cx} {e:Expr} {t:TT}:CoeFun (PW X e t) fun _=>∀ (whole:Sem Value) (IP:List (Addr×Obj)) (s:Shared) (σ:St) (H:Hp) (Q:Bool->Hp->Prop),KQ X IP σ H s->t σ H Q->wpAny (model X.prog X.w) X.A (isTrue e X.env whole) (TP X IP σ Q) X.xe s:=⟨PW.run⟩
variable {e:Expr} {X:Cx}
theorem PW.pt {t:TT} (h:PW X e t):PT X e t:=⟨fun IP s σ H Q I q=>h _ IP s σ H Q I q⟩
structure PA (X:Cx) (es:List Expr) (t:TA):Prop where
 run:∀ (pos:Pos) (IP:List (Addr×Obj)) (s:Shared) (σ:St) (H:Hp) (Q:List V->Hp->Prop),KQ X IP σ H s->t σ H Q->wpAny (model X.prog X.w) X.A (spliced (backTo pos (starEach es X.env))) (AP X IP σ Q) X.xe s
instance {X:Cx} {es:List Expr} {t:TA}:CoeFun (PA X es t) fun _=>∀ (pos:Pos) (IP:List (Addr×Obj)) (s:Shared) (σ:St) (H:Hp) (Q:List V->Hp->Prop),KQ X IP σ H s->t σ H Q->wpAny (model X.prog X.w) X.A (spliced (backTo pos (starEach es X.env))) (AP X IP σ Q) X.xe s:=⟨PA.run⟩
structure PS (X:Cx) (st:Stmt) (t:TS):Prop where
 run:∀ (IP:List (Addr×Obj)) (s:Shared) (σ:St) (H:Hp) (D:dJ),KQ X IP σ H s->t D σ H->wpAny (model X.prog X.w) X.A (exec st X.env) (SP X IP D) X.xe s
instance {X:Cx} {st:Stmt} {t:TS}:CoeFun (PS X st t) fun _=>∀ (IP:List (Addr×Obj)) (s:Shared) (σ:St) (H:Hp) (D:dJ),KQ X IP σ H s->t D σ H->wpAny (model X.prog X.w) X.A (exec st X.env) (SP X IP D) X.xe s:=⟨PS.run⟩
structure Mo (X:Cx) (st:List Stmt) (t:TS):Prop where
 run:∀ (IP:List (Addr×Obj)) (s:Shared) (σ:St) (H:Hp) (D:dJ),KQ X IP σ H s->t D σ H->wpAny (model X.prog X.w) X.A (execs st X.env) (SP X IP D) X.xe s
instance {X:Cx} {st:List Stmt} {t:TS}:CoeFun (Mo X st t) fun _=>∀ (IP:List (Addr×Obj)) (s:Shared) (σ:St) (H:Hp) (D:dJ),KQ X IP σ H s->t D σ H->wpAny (model X.prog X.w) X.A (execs st X.env) (SP X IP D) X.xe s:=⟨Mo.run⟩
variable {s:Shared} {E:Value->Shared->Prop} {A:Around} {M:Model}
theorem bM {α:Type} {t:Sem α} {Q Q':α->Shared->Prop} (h:wpAny M A t Q E s) (hQ:∀ a s,Q a s->Q' a s):wpAny M A t Q' E s:=wpAny_mono h hQ fun _ _ x=>x
section
variable {X:Cx}
inductive uB (i:Nat) (σ:St) (H:Hp) (Q:VK):Prop
 | mk (v:_):σ[i]?=some (some v)->Q v H->uB i σ H Q
def tC (v:V):TE:=fun _ H Q=>Q v H
theorem Bq {i:Nat} {x:Str} {pos:Pos} (hN:X.N[i]?=some x) (hv:Dy X.env.scope x) (hd:(x == ("__debug__":Str))=false:=by decide) (hcd:(x == ("__classdict__":Str))=false:=by decide):PE X (.Name x pos) (uB i):=by
 refine ⟨?_⟩
 intro IP s σ H Q I h
 obtain ⟨v,e,h⟩:=h
 obtain ⟨m,hn,hl⟩:=I.loc
 obtain ⟨u,r,l⟩:=hl i x v hN e hv
 have fin:EP X IP σ Q u s:=⟨v,H,I,r,h⟩
 rcases l with ⟨hk,hm⟩|⟨hk,c,hc,hcell⟩
 ·exact wpAny_Name (wpAny_loadName_local I.ok.kind hk hn hm fin) hd
 ·rcases hk with hk|hk
  ·exact wpAny_Name (wpAny_loadName_cell I.ok.kind hk hc hcell fin) hd
  ·exact wpAny_Name (wpAny_loadName_free I.ok.kind hk hc hcell fin hcd) hd
theorem ag {i j pos}:PE X (.Constant (.int i) j pos) (tC (.int i)):=⟨fun _ _ _ H _ I h=>wpAny_Constant_int ⟨.int i,H,I.tok _,⟨_,rfl⟩,h⟩⟩
theorem jR {b j pos}:PE X (.Constant (.bool b) j pos) (tC (.bl b)):=⟨fun _ _ _ H _ I h=>Constant_bool ⟨.bl b,H,I,rfl,h⟩⟩
theorem kI {j pos}:PE X (.Constant .none j pos) (tC .non):=⟨fun _ _ _ H _ I h=>Constant_none ⟨.non,H,I,rfl,h⟩⟩
theorem af {x j pos}:PE X (.Constant (.str x) j pos) (tC (.str x)):=⟨fun _ _ _ H _ I h=>Iw ⟨.str x,H,I.tok _,⟨_,rfl⟩,h⟩⟩
def Gl (X:Cx) (x:Str):Prop:=X.env.kindOf x=some .globalImplicit
variable {Q:Value->Shared->Prop} {σ:St} {IP:List (Addr×Obj)}
theorem iJ {E:Value->Shared->Prop} {x:Str} {pos:Pos} (I:KQ X IP σ H s) (hg:Gl X x) (hm:X.mg x=some u) (h:Q u s)
  (hd:(x == ("__debug__":Str))=false:=by decide):wpAny (model X.prog X.w) X.A (eval (.Name x pos) X.env) Q E s:=
 Calls.Name_function_global I.ok.kind hg (Calls.loadGlobal_global (by rw [I.ok.glob];exact I.mod.glob.keeps I.bk) hm h) hd
theorem jl {E:Value->Shared->Prop} {x:Str} {pos:Pos} (I:KQ X IP σ H s) (hg:Gl X x) (hm:X.mg x=none) (hv:bootBuiltins x=some u) (h:Q u s)
  (hn:x≠"__name__":=by decide) (hd:(x == ("__debug__":Str))=false:=by decide):wpAny (model X.prog X.w) X.A (eval (.Name x pos) X.env) Q E s:=by
 obtain ⟨mb,h1,h2⟩:=I.mod.blt
 exact Calls.Name_function_global I.ok.kind hg (Calls.loadGlobal_builtin (by rw [I.ok.glob];exact I.mod.glob.keeps I.bk) hm (by rw [I.ok.blt];exact h1.keeps I.bk) ((h2 x hn).trans hv) h) hd
variable {v:V}
theorem bx {x:Str} {pos:Pos} (hg:Gl X x) (hm:X.mg x=some u) (r:K1 v u) (hd:(x == ("__debug__":Str))=false:=by decide):PE X (.Name x pos) (tC v):=
 ⟨fun _ _ _ H _ I h=>iJ I hg hm ⟨v,H,I,r,h⟩ hd⟩
theorem yM {x:Str} {pos:Pos} (hg:Gl X x) (hm:X.mg x=none) (hv:bootBuiltins x=some u) (r:K1 v u) (hn:x≠"__name__":=by decide) (hd:(x == ("__debug__":Str))=false:=by decide):PE X (.Name x pos) (tC v):=
 ⟨fun _ _ _ H _ I h=>jl I hg hm hv ⟨v,H,I,r,h⟩ hn hd⟩
variable {a b:Expr} {ta tb:TE} {pos:Pos}
def PC (X:Cx) (op:CmpOp) (a b:Expr) (t:TE):Prop:=
 ∀ (IP:List (Addr×Obj)) (s:Shared) (σ:St) (H:Hp) (Q:VK),KQ X IP σ H s->t σ H Q->
  wpAny (model X.prog X.w) X.A (eval a X.env) (fun v s₁=>wpAny (model X.prog X.w) X.A (eval b X.env) (fun u s₂=>wpAny (model X.prog X.w) X.A (compareOp op v u) (EP X IP σ Q) X.xe s₂) X.xe s₁) X.xe s
inductive Ga (Q:Bool->Hp->Prop) (x:V) (H1:Hp):Prop
 | mk (c:_):x=.bl c->Q c H1->Ga Q x H1
def tB (t:TE):TT:=fun σ H Q=>t σ H fun x H1=>Ga Q x H1
theorem qP {op:CmpOp} {t:TE} (h:PC X op a b t) (h1:behindInMarks op b=false:=by first|exact nobehind _ (by decide) (by decide)|rfl):PT X (.Compare a [op] [b] pos) (tB t):=by
 refine ⟨?_⟩
 intro IP s σ H Q I hw
 refine wpAny_isTrue_Compare1 (bM (h IP s σ H _ I hw) fun v s1 h1=>bM h1 fun u s2 h2=>bM h2 fun c s3 ⟨x,H1,I1,r1,q1⟩=>?_) h1
 obtain ⟨d,rfl,q⟩:=q1
 cases r1
 exact wpAny_truthy_bool ⟨H1,I1,q⟩
theorem dA {t:TE} (h:PE X e t) (he:∀ whole,isTrue e X.env whole=(do let v <-whole;standAt e.pos;holding [v] (truthy v)):=by intro _;rfl):PT X e (tB t):=by
 refine ⟨?_⟩
 intro IP s σ H Q I hw
 refine isTrue_plain (bM (h IP s σ H _ I hw) fun v s1 ⟨x,H1,I1,r1,q1⟩=>?_) (he _)
 obtain ⟨d,rfl,q⟩:=q1
 cases r1
 exact wpAny_truthy_bool ⟨H1,I1,q⟩
variable {tA tB':TT} {rest:List Expr}
def Fh (t u:TT):TT:=fun σ H Q=>t σ H fun c H1=>if c=true then u σ H1 Q else Q false H1
def Gj (t u:TT):TT:=fun σ H Q=>t σ H fun c H1=>if c=true then Q true H1 else u σ H1 Q
def Fi (t:TT):TT:=fun σ H Q=>t σ H fun c H1=>Q (!c) H1
theorem bJ (ha:PT X a tA):PW X (.BoolOp .And [a] pos) tA:=by
 refine ⟨?_⟩
 intro wh IP s σ H Q I h
 refine isTrue_and (bM (ha IP s σ H Q I h) fun c s1 e=>?_)
 cases c with
 | true=>exact isTrue_and_nil e
 | false=>exact e
theorem dL (ha:PT X a tA):PW X (.BoolOp .Or [a] pos) tA:=by
 refine ⟨?_⟩
 intro wh IP s σ H Q I h
 refine isTrue_or (bM (ha IP s σ H Q I h) fun c s1 e=>?_)
 cases c with
 | false=>exact isTrue_or_nil e
 | true=>exact e
theorem bZ (ha:PT X a tA) (hb:PW X (.BoolOp .And (b::rest) pos) tB'):PW X (.BoolOp .And (a::b::rest) pos) (Fh tA tB'):=by
 refine ⟨?_⟩
 intro wh IP s σ H Q I h
 refine isTrue_and (bM (ha IP s σ H _ I h) fun c s1 ⟨H1,I1,q1⟩=>?_)
 cases c with
 | true=>exact hb wh IP s1 σ H1 Q I1 q1
 | false=>exact ⟨H1,I1,q1⟩
theorem fL (ha:PT X a tA) (hb:PW X (.BoolOp .Or (b::rest) pos) tB'):PW X (.BoolOp .Or (a::b::rest) pos) (Gj tA tB'):=by
 refine ⟨?_⟩
 intro wh IP s σ H Q I h
 refine isTrue_or (bM (ha IP s σ H _ I h) fun c s1 ⟨H1,I1,q1⟩=>?_)
 cases c with
 | true=>exact ⟨H1,I1,q1⟩
 | false=>exact hb wh IP s1 σ H1 Q I1 q1
theorem eP (ha:PT X a tA):PT X (.UnaryOp .Not a pos) (Fi tA):=by
 refine ⟨?_⟩
 intro IP s σ H Q I h
 exact isTrue_not (ha IP s σ H (fun c H1=>Q (!c) H1) I h)
inductive vJ (tb:TE) (σ:St) (Q:VK) (x:V) (H1:Hp):Prop
 | mk (c:_):x=.bl c->(if c=true then tb σ H1 Q else Q (.bl false) H1)->vJ tb σ Q x H1
def Dz (ta tb:TE):TE:=fun σ H Q=>ta σ H fun x H1=>vJ tb σ Q x H1
inductive vK (Q:VK) (x:V) (H1:Hp):Prop
 | mk (c:_):x=.bl c->Q (.bl (!c)) H1->vK Q x H1
def DA (ta:TE):TE:=fun σ H Q=>ta σ H fun x H1=>vK Q x H1
theorem gZ {op} {t:TE} (h:PE X a t):PE X (.BoolOp op [a] pos) t:=⟨fun IP s σ H Q I hw=>BoolOp_one (h IP s σ H Q I hw)⟩
theorem hI (ha:PE X a ta) (hb:PE X (.BoolOp .And (b::rest) pos) tb):PE X (.BoolOp .And (a::b::rest) pos) (Dz ta tb):=by
 refine ⟨?_⟩
 intro IP s σ H Q I h
 refine BoolOp_and (bM (ha IP s σ H _ I h) fun v s1 ⟨x,H1,I1,r1,q1⟩=>?_)
 obtain ⟨c,rfl,q1⟩:=q1
 cases r1
 refine wpAny_truthy_bool ?_
 cases c with
 | true=>exact hb IP s1 σ H1 Q I1 q1
 | false=>exact ⟨.bl false,H1,I1,rfl,q1⟩
theorem Br (ha:PE X a ta):PE X (.UnaryOp .Not a pos) (DA ta):=by
 refine ⟨?_⟩
 intro IP s σ H Q I h
 refine UnaryOp_ (bM (ha IP s σ H _ I h) fun v s1 ⟨x,H1,I1,r1,q1⟩=>?_)
 obtain ⟨c,rfl,q1⟩:=q1
 cases r1
 exact not_of (wpAny_truthy_bool ⟨.bl (!c),H1,I1,rfl,q1⟩)
def Gk (t:TT) (ta tb:TE):TE:=fun σ H Q=>t σ H fun c H1=>if c=true then ta σ H1 Q else tb σ H1 Q
theorem pE {c:Expr} (hc:PT X c tA) (ha:PE X a ta) (hb:PE X b tb):PE X (.IfExp c a b pos) (Gk tA ta tb):=by
 refine ⟨?_⟩
 intro IP s σ H Q I h
 refine wpAny_IfExp (bM (hc IP s σ H _ I h) fun d s1 ⟨H1,I1,q1⟩=>?_)
 cases d with
 | true=>exact ha IP s1 σ H1 Q I1 q1
 | false=>exact hb IP s1 σ H1 Q I1 q1
end
def KW (K:ZF) (H:Hp) (a:Addr) (xs:List V):Prop:=
 Rd H a (.lst xs) ∨
  ∃ (o:Obj) (its:Array Value) (n:Nat),K.lookup a=some o/\o.cls=.type "list"/\o.dict=none/\o.data=.seq its n/\its.size<=sizeLine/\K2 xs its.toList
def KP (K:ZF) (H:Hp) (a:Addr) (xs:List V):Prop:=
 Rd H a (.tup xs) ∨
  ∃ (o:Obj) (its:Array Value) (n:Nat),K.lookup a=some o/\o.cls=.type "tuple"/\o.data=.seq its n/\its.size<=sizeLine/\K2 xs its.toList
def Fj:Value->Option V
 | .none=>some .non
 | .bool b=>some (.bl b)
 | .int i _=>some (.int i)
 | .str x _=>some (.str x)
 | .bytes b _=>some (.byt b)
 | .float b _=>some (.flt b)
 | .ref a=>some (.ref a)
 | .type n=>some (.ty n)
 | _=>none
theorem K1.abs (r:K1 x u):Fj u=some x:=by
 cases x with
 | non=>cases r;rfl
 | bl _=>cases r;rfl
 | int _=>obtain ⟨t,rfl⟩:=r;rfl
 | str _=>obtain ⟨t,rfl⟩:=r;rfl
 | byt _=>obtain ⟨t,rfl⟩:=r;rfl
 | flt _=>obtain ⟨t,rfl⟩:=r;rfl
 | ref _=>cases r;rfl
 | ty _=>cases r;rfl
variable {y:V}
theorem K1.inj (r:K1 x u) (q:K1 y u):x=y:=Hd (r.abs.symm.trans q.abs)
theorem K2.inj:∀ {xs ys:List V} {us:List Value},K2 xs us->K2 ys us->xs=ys
 | _,_,_,.nil,.nil=>rfl
 | _,_,_,.cons r t,.cons r' t'=>by rw [r.inj r',K2.inj t t']
section
variable {X:Cx} {IP:List (Addr×Obj)} {σ:St} {H:Hp} {s:Shared} {a:Addr} {xs ys:List V}
variable {K:ZF}
theorem KW.of (h:H a=some (.lst xs)):KW K H a xs:=.inl (.inl h)
theorem KP.of (h:H a=some (.tup xs)):KP K H a xs:=.inl (.inl h)
theorem KQ.list (I:KQ X IP σ H s) (h:KW X.K H a xs):∃ its:List Value,K2 xs its/\PlainL s.heap a its.toArray/\xs.length<=sizeLine:=by
 rcases h with h|⟨o,its,n,hk,hc,hd,hs,hz,r⟩
 ·obtain ⟨z,its,n,r,e⟩:=h.ok I.hok
  exact ⟨its,r,⟨_,n,e,rfl,rfl,rfl⟩,z⟩
 ·refine ⟨its.toList,r,⟨o,n,I.kIn a o hk,hc,hd,by simpa using hs⟩,?_⟩
  have e:=r.length
  simp only [Array.length_toList] at e
  lia
theorem KQ.tuple (I:KQ X IP σ H s) (h:KP X.K H a xs):∃ its:List Value,K2 xs its/\IsTup s.heap a its.toArray/\xs.length<=sizeLine:=by
 rcases h with h|⟨o,its,n,hk,hc,hs,hz,r⟩
 ·obtain ⟨z,its,r,p⟩:=h.ok I.hok
  exact ⟨its,r,p.up,z⟩
 ·refine ⟨its.toList,r,⟨o,I.kIn a o hk,hc,n,by simpa using hs⟩,?_⟩
  have e:=r.length
  simp only [Array.length_toList] at e
  lia
theorem KQ.list_inj (I:KQ X IP σ H s) (h:KW X.K H a xs) (h':KW X.K H a ys):xs=ys:=by
 obtain ⟨its,r,⟨o,n,e,_,_,d⟩,_⟩:=I.list h
 obtain ⟨its',r',⟨o',n',e',_,_,d'⟩,_⟩:=I.list h'
 rw [e] at e';cases e'
 rw [d] at d'
 injection d' with d1 _
 have:its=its':=by simpa using congrArg Array.toList d1
 subst this
 exact r.inj r'
theorem KQ.tuple_inj (I:KQ X IP σ H s) (h:KP X.K H a xs) (h':KP X.K H a ys):xs=ys:=by
 obtain ⟨its,r,⟨o,e,_,n,d⟩,_⟩:=I.tuple h
 obtain ⟨its',r',⟨o',e',_,n',d'⟩,_⟩:=I.tuple h'
 rw [e] at e';cases e'
 rw [d] at d'
 injection d' with d1 _
 have:its=its':=by simpa using congrArg Array.toList d1
 subst this
 exact r.inj r'
end
abbrev Cx.wish (X:Cx) (E:Value->Shared->Prop):Cx:={ X with xe:=E }
abbrev Cx.nox (X:Cx):Cx:=X.wish fun _ _=>False
theorem Cx.Ok.wish (ok:X.Ok) (E:Value->Shared->Prop):(X.wish E).Ok:=
 ⟨ok.mod,ok.kind,ok.glob,ok.blt,ok.above,ok.inj,ok.has,ok.cab,ok.hd,ok.frames,ok.stk,ok.exf,ok.bs,ok.bsz,ok.noex,ok.exfs,ok.funs,ok.frf⟩
theorem Cx.Ok.unwish (ok:(X.wish E).Ok):X.Ok:=
 ⟨ok.mod,ok.kind,ok.glob,ok.blt,ok.above,ok.inj,ok.has,ok.cab,ok.hd,ok.frames,ok.stk,ok.exf,ok.bs,ok.bsz,ok.noex,ok.exfs,ok.funs,ok.frf⟩
section
variable {X:Cx} {IP:List (Addr×Obj)} {σ:St} {H:Hp} {s:Shared} {E:Value->Shared->Prop}
theorem KQ.wish (I:KQ X IP σ H s) (E:Value->Shared->Prop):KQ (X.wish E) IP σ H s:=⟨I.ok.wish E,I.os,I.bare,I.base,I.loc,I.cell,I.free,I.freeC,I.pin,I.hok,I.len⟩
theorem KQ.unwish (I:KQ (X.wish E) IP σ H s):KQ X IP σ H s:=⟨I.ok.unwish,I.os,I.bare,I.base,I.loc,I.cell,I.free,I.freeC,I.pin,I.hok,I.len⟩
theorem SP.unwish {D:dJ} {f:Flow} {s':Shared} (h:SP (X.wish E) IP D f s'):SP X IP D f s':=by
 cases f with
 | next=>obtain ⟨σ',H',I,q⟩:=h;exact ⟨σ',H',I.unwish,q⟩
 | brk=>obtain ⟨σ',H',I,q⟩:=h;exact ⟨σ',H',I.unwish,q⟩
 | cont=>obtain ⟨σ',H',I,q⟩:=h;exact ⟨σ',H',I.unwish,q⟩
 | ret u=>obtain ⟨v,σ',H',I,r,q⟩:=h;exact ⟨v,σ',H',I.unwish,r,q⟩
theorem Mo.nox {st:List Stmt} {t:TS} (h:Mo X.nox st t):Mo X st t:=⟨fun IP s σ H D I hw=>
 wpAny_mono (h IP s σ H D (I.wish _) hw) (fun _ _ q=>q.unwish) fun _ _ z=>False.elim z⟩
end
section
variable {X:Cx} {st:Stmt} {rest:List Stmt} {t u:TS} {e:Expr} {te:TE} {pos:Pos}
def DB:TS:=fun D σ H=>D.nx σ H
def Fk (t u:TS):TS:=fun D σ H=>t { D with nx:=u D } σ H
theorem aH:Mo X [] DB:=⟨fun _ _ σ H _ I h=>wpAny_execs_nil ⟨σ,H,I,h⟩⟩
theorem ae (h1:PS X st t) (h2:Mo X rest u):Mo X (st::rest) (Fk t u):=by
 refine ⟨?_⟩
 intro IP s σ H D I h
 refine wpAny_execs_cons (bM (h1 IP s σ H { D with nx:=u D } I h) fun f s1 q=>?_)
 cases f with
 | next=>
  obtain ⟨σ',H',I',q⟩:=q
  exact h2 IP s1 σ' H' D I' q
 | ret v=>exact q
 | brk=>exact q
 | cont=>exact q
theorem ah (h1:PS X st t):Mo X [st] t:=by
 refine ⟨?_⟩
 intro IP s σ H D I h
 refine wpAny_execs_cons (bM (h1 IP s σ H D I h) fun f s1 q=>?_)
 cases f with
 | next=>exact wpAny_execs_nil q
 | ret v=>exact q
 | brk=>exact q
 | cont=>exact q
theorem KQ.quiet {IP:List (Addr×Obj)} {σ:St} (I:KQ X IP σ H s):interactive X.env=false:=by simp [interactive,I.ok.kind]
def DC (te:TE):TS:=fun D σ H=>te σ H fun _ H1=>D.nx σ H1
theorem aN (he:PE X e te) (hs:swapsWith e none pos.line X.env=pure false:=by rfl):PS X (.Expr e pos) (DC te):=by
 refine ⟨?_⟩
 intro IP s σ H D I h
 exact wpAny_Expr_any (bM (he IP s σ H _ I h) fun v s1 ⟨x,H1,I1,r1,q1⟩=>⟨σ,H1,I1,q1⟩) I.quiet hs
def DD (te:TE):TS:=fun D σ H=>te σ H D.rt
theorem ao (he:PE X e te):PS X (.Return (some e) pos) (DD te):=by
 refine ⟨?_⟩
 intro IP s σ H D I h
 exact wpAny_Return_some (bM (he IP s σ H _ I h) fun v s1 ⟨x,H1,I1,r1,q1⟩=>⟨x,σ,H1,I1,r1,q1⟩)
def Fl (c:TT) (t u:TS):TS:=fun D σ H=>c σ H fun b H1=>if b=true then t D σ H1 else u D σ H1
theorem aM {c:Expr} {a b:List Stmt} {tc:TT} (hc:PT X c tc) (ha:Mo X a t) (hb:Mo X b u):PS X (.If c a b pos) (Fl tc t u):=by
 refine ⟨?_⟩
 intro IP s σ H D I h
 refine wpAny_If (bM (hc IP s σ H _ I h) fun d s1 ⟨H1,I1,q1⟩=>?_)
 cases d with
 | true=>exact ha IP s1 σ H1 D I1 q1
 | false=>exact hb IP s1 σ H1 D I1 q1
def Bs:TS:=fun _ _ _=>False
theorem cN:PS X st Bs:=⟨fun _ _ _ _ _ _ h=>h.elim⟩
end
abbrev TG:=V->St->Hp->(St->Hp->Prop)->Prop
abbrev Bt:=List V->St->Hp->(St->Hp->Prop)->Prop
def PG (X:Cx) (target:Expr) (t:TG):Prop:=
 ∀ (IP:List (Addr×Obj)) (s:Shared) (σ:St) (H:Hp) (v:V) (u:Value) (Q:St->Hp->Prop),KQ X IP σ H s->K1 v u->t v σ H Q->
  wpAny (model X.prog X.w) X.A (assign target X.env u) (fun _ s'=>∃ σ' H',KQ X IP σ' H' s'/\Q σ' H') X.xe s
def DF (X:Cx) (ts:List Expr) (t:Bt):Prop:=
 ∀ (IP:List (Addr×Obj)) (s:Shared) (σ:St) (H:Hp) (vs:List V) (us:List Value) (Q:St->Hp->Prop),KQ X IP σ H s->K2 vs us->t vs σ H Q->
  wpAny (model X.prog X.w) X.A (assignInOrder ((assignEach ts X.env).map (·.2)) us) (fun _ s'=>∃ σ' H',KQ X IP σ' H' s'/\Q σ' H') X.xe s
abbrev Bu:=V->V->V->Hp->(Hp->Prop)->Prop
def DG (X:Cx) (t:Bu):Prop:=
 ∀ (IP:List (Addr×Obj)) (s:Shared) (σ:St) (H:Hp) (o i v:V) (ov iv u:Value) (Q:Hp->Prop),KQ X IP σ H s->K1 o ov->K1 i iv->K1 v u->t o i v H Q->
  wpAny (model X.prog X.w) X.A (setItem ov iv u) (fun _ s'=>∃ H',KQ X IP σ H' s'/\Q H') X.xe s
abbrev Fo:=V->V->Hp->VK->Prop
def Fp (X:Cx) (op:Operator) (t:Fo):Prop:=
 ∀ (IP:List (Addr×Obj)) (s:Shared) (σ:St) (H:Hp) (x y:V) (v u:Value) (Q:VK),KQ X IP σ H s->K1 x v->K1 y u->t x y H Q->
  wpAny (model X.prog X.w) X.A (inplaceOp op v u) (EP X IP σ Q) X.xe s
section
variable {X:Cx} {pos:Pos}
def sO (i:Nat):TG:=fun v σ H Q=>Q (σ.set i (some v)) H
variable {i:Nat}
theorem az {x:Str} (hN:X.N.Nodup) (hi:X.N[i]?=some x) (hx:Bp X.env.scope x) (hf:X.fn x=true\/X.env.scope.names.lookup x=some .local:=by first|exact .inl rfl|exact .inr rfl|assumption):PG X (.Name x pos) (sO i):=by
 intro IP s σ H v u Q I r h
 exact wpAny_assign_Name (fS I hN hi hx r (fun s' I'=>⟨_,H,I',h⟩) hf)
def Fq:Bt:=fun vs σ H Q=>vs=[]/\Q σ H
inductive Az (t:TG) (u:Bt) (vs:List V) (σ:St) (H:Hp) (Q:St->Hp->Prop):Prop
 | mk (v r:_):vs=v::r->(t v σ H fun σ' H'=>u r σ' H' Q)->Az t u vs σ H Q
theorem bi:DF X [] Fq:=by
 intro IP s σ H vs us Q I r h
 obtain ⟨e,h⟩:=h
 subst e
 cases r
 exact assignInOrder_nil ⟨σ,H,I,h⟩
variable {es:List Expr}
theorem aA {t:TG} {u:Bt} (h1:PG X e t) (h2:DF X es u)
  (hs:(assignEach (e::es) X.env).map (·.2)=assign e X.env::(assignEach es X.env).map (·.2):=by rfl):DF X (e::es) (Az t u):=by
 intro IP s σ H vs us Q I r h
 obtain ⟨v,vr,e1,h⟩:=h
 subst e1
 cases r with
 | cons r rr=>
  rw [hs]
  refine assignInOrder_cons (bM (h1 IP s σ H _ _ _ I r h) fun _ s1 ⟨σ1,H1,I1,q1⟩=>?_)
  exact h2 IP s1 σ1 H1 _ _ Q I1 rr q1
inductive Bv (K:ZF) (n:Nat) (t:Bt) (v:V) (σ:St) (H:Hp) (Q:St->Hp->Prop):Prop
 | mk (a xs:_):v=.ref a->KP K H a xs->xs.length=n->t xs σ H Q->Bv K n t v σ H Q
theorem cB {k:Nat} {t:Bt} {n:Nat} (hc:X.calm=true) (h:DF X es t)
  (hn:(assignEach es X.env).length=n:=by rfl) (hst:(assignEach es X.env).findIdx? (·.1)=none:=by rfl):PG X (.Tuple es k pos) (Bv X.K n t):=by
 intro IP s σ H v u Q I r hw
 obtain ⟨a,xs,e1,hq,hl,hw⟩:=hw
 subst e1
 cases r
 obtain ⟨its,rv,ht,hz⟩:=I.tuple hq
 refine assign_Tuple_tuple (I.ok.hd hc) ht (by simp [hn,<-hl,rv.length]) hst fun h' hx=>?_
 have I1:KQ X IP σ H { s with heap:=h' }:=I.kept (t':=s.toks) fun b o e=>hx b o (Hq (GT e)) e
 exact h IP _ σ H xs _ Q I1 (by simpa using rv) hw
def Fr (to ti:TE) (t:Bu):TG:=fun v σ H Q=>to σ H fun o H1=>ti σ H1 fun i H2=>t o i v H2 fun H3=>Q σ H3
theorem vL {o i:Expr} {to ti:TE} {t:Bu} (ho:PE X o to) (hi:PE X i ti) (hs:DG X t)
  (ha:∀ v,assign (.Subscript o i pos) X.env v=(do
   let ov <-holding [v] (eval o X.env)
   let iv <-holding [v,ov] (eval i X.env)
   standAt pos
   holding [v,ov,iv] (setItem ov iv v)
   release [v,ov,iv] []):=by intro _;rfl):PG X (.Subscript o i pos) (Fr to ti t):=by
 intro IP s σ H v u Q I r h
 rw [ha]
 refine wpAny_bind (wpAny_holding (bM (ho IP s σ H _ I h) fun ov s1 ⟨x,H1,I1,r1,q1⟩=>?_))
 refine wpAny_bind (wpAny_holding (bM (hi IP s1 σ H1 _ I1 q1) fun iv s2 ⟨y,H2,I2,r2,q2⟩=>?_))
 refine wpAny_bind (wpAny_standAt (wpAny_bind (wpAny_holding (bM (hs IP s2 σ H2 x y v ov iv u _ I2 r1 r2 r q2) fun _ s3 ⟨H3,I3,q3⟩=>?_))))
 exact wpAny_release ⟨σ,H3,I3,q3⟩
def yN (te:TE) (g:TG):TS:=fun D σ H=>te σ H fun x H1=>g x σ H1 D.nx
variable {te:TE}
theorem fT {tg e:Expr} {g:TG} (he:PE X e te) (hg:PG X tg g) (hs:swapsWithSole [tg] e pos.line X.env=pure false:=by rfl) (hw:swappedStores [tg] e X.env=pure none:=by rfl)
  (h1:(assignEach [tg] X.env).map (·.2)=[assign tg X.env]:=by rfl):PS X (.Assign [tg] e pos) (yN te g):=by
 refine ⟨?_⟩
 intro IP s σ H D I h
 refine wpAny_Assign_stores (bM (he IP s σ H _ I h) fun v s1 ⟨x,H1,I1,r1,q1⟩=>?_) hs hw
 rw [h1]
 exact bM (hg IP s1 σ H1 x v _ I1 r1 q1) fun _ s2 q=>q
theorem ap {x:Str} {pos':Pos} (hN:X.N.Nodup) (hi:X.N[i]?=some x) (hx:Bp X.env.scope x) (he:PE X e te) (hs:swapsWith e (some (.Name x pos')) pos.line X.env=pure false:=by rfl) (hf:X.fn x=true\/X.env.scope.names.lookup x=some .local:=by first|exact .inl rfl|exact .inr rfl|assumption) :
  PS X (.Assign [.Name x pos'] e pos) (yN te (sO i)):=by
 refine ⟨?_⟩
 intro IP s σ H D I h
 refine wpAny_Assign_Name (bM (he IP s σ H _ I h) fun v s1 ⟨y,H1,I1,r1,q1⟩=>?_) hs
 exact fS I1 hN hi hx r1 (fun s2 I2=>⟨_,H1,I2,q1⟩) hf
inductive DH (i:Nat) (te:TE) (ti:Fo) (D:dJ) (σ:St) (H:Hp):Prop
 | mk (x:_):σ[i]?=some (some x)->(te σ H fun y H1=>ti x y H1 fun z H2=>D.nx (σ.set i (some z)) H2)->DH i te ti D σ H
theorem jm {x:Str} {op:Operator} {ti:Fo} {pos':Pos} (hN:X.N.Nodup) (hi:X.N[i]?=some x) (hx:Bp X.env.scope x) (he:PE X e te) (ho:Fp X op ti) (hf:X.fn x=true\/X.env.scope.names.lookup x=some .local:=by first|exact .inl rfl|exact .inr rfl|assumption) :
  PS X (.AugAssign (.Name x pos') op e pos) (DH i te ti):=by
 refine ⟨?_⟩
 intro IP s σ H D I h
 obtain ⟨v,e1,h⟩:=h
 obtain ⟨m,hn,hl⟩:=I.loc
 have vis:Dy X.env.scope x:=by rcases hx with k|k;exact .inl k;exact .inr (.inl k)
 obtain ⟨u,r,l⟩:=hl i x v hi e1 vis
 refine wpAny_AugAssign_Name ?_
 have go:wpAny (model X.prog X.w) X.A (eval e X.env) (fun w s₂=>wpAny (model X.prog X.w) X.A (inplaceOp op u w) (fun r s₃=>wpAny (model X.prog X.w) X.A (storeName X.env x r) (fun _=>SP X IP D .next) X.xe s₃) X.xe s₂) X.xe s:=by
  refine bM (he IP s σ H _ I h) fun w s1 ⟨y,H1,I1,r1,q1⟩=>?_
  refine bM (ho IP s1 σ H1 v y u w _ I1 r r1 q1) fun z s2 ⟨zv,H2,I2,r2,q2⟩=>?_
  exact fS I2 hN hi hx r2 (fun s3 I3=>⟨_,H2,I3,q2⟩) hf
 rcases l with ⟨hk,hm⟩|⟨hk,c,hc,hcell⟩
 ·exact wpAny_loadName_local I.ok.kind hk hn hm go
 ·rcases hk with hk|hk
  ·exact wpAny_loadName_cell I.ok.kind hk hc hcell go
  ·rcases hx with k|k
   ·have:X.env.scope.names.lookup x=some .free:=hk
    rw [k] at this;cases this
   ·have:X.env.scope.names.lookup x=some .free:=hk
    rw [k] at this;cases this
inductive Gb (f:Int->Int->Int) (x:V) (y:V) (H:Hp) (Q:VK):Prop
 | mk (i j:_):x=.int i->y=.int j->Q (.int (f i j)) H->Gb f x y H Q
theorem qQ:Fp X .Add (Gb fun i j=>i+j):=by
 intro IP s σ H x y v u Q I r1 r2 h
 obtain ⟨i,j,e1,e2,q⟩:=h
 subst e1;subst e2
 obtain ⟨t,rfl⟩:=r1
 obtain ⟨t',rfl⟩:=r2
 exact iadd_int ⟨.int _,H,I.tok _,⟨_,rfl⟩,q⟩
end
section
variable {X:Cx} {pos:Pos}
inductive vM (c:TT) (tb:TS) (D:dJ) (σ:St) (H:Hp):Prop
 | mk (W:Nat->St->Hp->Prop):(∃ m,W m σ H)->(∀ m σ H,W m σ H->
 c σ H fun b H1=>if b=true then ∃ N:St->Hp->Prop,(∀ σ' H',N σ' H'->∃ m',m' < m/\W m' σ' H')/\tb { D with nx:=N,ct:=N,bk:=D.nx } σ H1 else D.nx σ H1)->vM c tb D σ H
theorem fb {c:Expr} {body:List Stmt} {tc:TT} {tb:TS} (hp:PassesOwn (model X.prog X.w) X.A X.env X.xe) (hc:PT X c tc) (hb:Mo X body tb):PS X (.While c body [] pos) (vM tc tb):=by
 refine ⟨?_⟩
 intro IP s σ H D I h
 obtain ⟨W,⟨m0,w0⟩,turn⟩:=h
 refine wpAny_While (codeAny_whileLoop (fun n s'=>∃ σ' H',KQ X IP σ' H' s'/\W n σ' H') ?_ m0 ⟨σ,H,I,w0⟩)
 rintro n s1 ⟨σ1,H1,I1,w1⟩
 refine wpAny_passesOwn hp (bM (hc IP s1 σ1 H1 _ I1 (turn n σ1 H1 w1)) fun b s2 ⟨H2,I2,q2⟩=>?_)
 cases b with
 | true=>
  obtain ⟨N,hN,q2⟩:=q2
  rw [if_pos rfl]
  refine wpAny_passesOwn hp (bM (hb IP s2 σ1 H2 _ I2 q2) fun f s3 q3=>?_)
  cases f with
  | next=>
   obtain ⟨σ3,H3,I3,n3⟩:=q3
   obtain ⟨m',hm,w3⟩:=hN σ3 H3 n3
   exact ⟨m',hm,σ3,H3,I3,w3⟩
  | cont=>
   obtain ⟨σ3,H3,I3,n3⟩:=q3
   obtain ⟨m',hm,w3⟩:=hN σ3 H3 n3
   exact ⟨m',hm,σ3,H3,I3,w3⟩
  | brk=>exact q3
  | ret v=>exact q3
 | false=>
  rw [if_neg GU]
  exact wpAny_execs_nil ⟨σ1,H2,I2,q2⟩
end
structure It where
 go:Nat->Hp->Prop
 yld:Nat->Hp->V->Hp->Prop
 stop:Nat->Hp->Prop
def mx (X:Cx) (IP:List (Addr×Obj)) (H:Hp) (b:Addr):Prop:=
 H b=none/\b≠X.env.locals/\b∉X.fs/\(b∈X.ex\/X.s₀.heap.objs.size<=b)/\(∀ x c,X.env.cells.lookup x=some c->c≠b)/\∀ p∈X.pn++IP,p.1≠b
variable {σ:St} {IP:List (Addr×Obj)}
theorem KQ.fpOk {H H':Hp} (I:KQ X IP σ H s) (hb:s.heap.objs.size<=b) (hn:H' b=none):mx X IP H' b:=by
 refine ⟨hn,Nat.ne_of_gt (He I.lt hb),I.nofs hb,.inr (Hl I.sz hb),fun x c e z=>?_,fun p hp z=>?_⟩
 ·obtain ⟨v,q⟩:=I.cell x c e
  exact absurd (He q.lt (by rw [z];exact hb)) (Ic _)
 ·exact absurd (He (GT (I.pin p hp).1) (by rw [z];exact hb)) (Ic _)
structure pF (P:Program) (w:World) (K:ZF) (tg:Expr) (J:It) (fp:List Addr) (it:Addr) (tn:Nat->Heap->Prop):Prop where
 mem:it∈fp
 obj:∀ i h,tn i h->∀ b∈fp,∃ o,h.get? b=some o/\∀ v,o.data≠.cell v
 keep:∀ i h h',tn i h->(∀ b∈fp,∀ o,h.get? b=some o->h'.get? b=some o)->tn i h'
 item:∀ (X:Cx),X.prog=P->X.w=w->X.K=K->X.calm=true->∀ (i:Nat) (IP:List (Addr×Obj)) (s:Shared) (σ:St) (H:Hp) (E:Value->Shared->Prop),KQ X IP σ H s->(∀ b∈fp,mx X IP H b)->tn i s.heap->J.go i H->
  wpAny (model P w) X.A (pyNext (.ref it)) (fun r s1=>∃ u,r=some u /\
   wpAny (model P w) X.A (letOwnedTupleGo tg (.ref it) u) (fun _ s2=>∃ x H',KQ X IP σ H' s2/\K1 x u/\J.yld i H x H'/\tn (i+1) s2.heap/\∀ b∈fp,H' b=none) E s1) E s
 done:∀ (X:Cx),X.prog=P->X.w=w->X.K=K->X.calm=true->∀ (i:Nat) (IP:List (Addr×Obj)) (s:Shared) (σ:St) (H:Hp) (E:Value->Shared->Prop),KQ X IP σ H s->(∀ b∈fp,mx X IP H b)->tn i s.heap->J.stop i H->
  wpAny (model P w) X.A (pyNext (.ref it)) (fun r s1=>r=none/\KQ X IP σ H s1) E s
 self:∀ (A:Around) (i:Nat) (s:Shared) (Q:Value->Shared->Prop) (E:Value->Shared->Prop),tn i s.heap->Q (.ref it) s->wpAny (model P w) A (pyIter (.ref it)) Q E s
abbrev TI:=St->Hp->(It->Hp->Prop)->Prop
inductive E9 (X:Cx) (IP:List (Addr×Obj)) (σ:St) (tg:Expr) (R:It->Hp->Prop) (itv:Value) (s2:Shared):Prop
 | mk (it:Addr) (fp:List Addr) (tn:Nat->Heap->Prop) (J:It) (H':Hp):itv=.ref it->KQ X IP σ H' s2->pF X.prog X.w X.K tg J fp it tn->tn 0 s2.heap->(∀ b∈fp,mx X IP H' b)->R J H'->E9 X IP σ tg R itv s2
structure PI (X:Cx) (tg iter:Expr) (wi:TI):Prop where
 run:∀ (IP:List (Addr×Obj)) (s:Shared) (σ:St) (H:Hp) (R:It->Hp->Prop),KQ X IP σ H s->wi σ H R->
  wpAny (model X.prog X.w) X.A (eval iter X.env) (fun v s1=>wpAny (model X.prog X.w) X.A (pyIter v) (E9 X IP σ tg R) X.xe s1) X.xe s
instance {X:Cx} {tg iter:Expr} {wi:TI}:CoeFun (PI X tg iter wi) fun _=>∀ (IP:List (Addr×Obj)) (s:Shared) (σ:St) (H:Hp) (R:It->Hp->Prop),KQ X IP σ H s->wi σ H R->
  wpAny (model X.prog X.w) X.A (eval iter X.env) (fun v s1=>wpAny (model X.prog X.w) X.A (pyIter v) (E9 X IP σ tg R) X.xe s1) X.xe s:=⟨PI.run⟩
theorem pG {M:Model} {A:Around} {E:Value->Shared->Prop} {tg:Expr} {it:Addr} {u:Value} {o:Obj} {n:String} {vs:Array Value} {Q:Unit->Shared->Prop} (ho:s.heap.get? it=some o) (hc:o.cls=.type n) (hd:o.data=.fields vs)
  (hn:["enumerate","zip","dict_itemiterator","dict_reverseitemiterator","odict_iterator","itertools.zip_longest","itertools.pairwise"].contains n=false) (hQ:Q () s):wpAny M A (letOwnedTupleGo tg (.ref it) u) Q E s:=by
 unfold letOwnedTupleGo
 cases tg<;>first
  | exact wpAny_pure hQ
  | (cases u<;>first
    | exact wpAny_pure hQ
    | (refine wpAny_bind (wpAny_load ho ?_)
       rw [hc,hd]
       show wpAny M A (if (["enumerate","zip","dict_itemiterator","dict_reverseitemiterator","odict_iterator","itertools.zip_longest","itertools.pairwise"].contains n && vs[0]? == some (rawInt _))=true then _ else _) Q E s
       rw [if_neg (by intro h;rw [hn,Bool.false_and] at h;cases h)]
       exact wpAny_pure hQ))
def Dq (K:ZF) (a:Addr):It:=
 ⟨fun i H=>∃ xs x,KW K H a xs/\xs[i]?=some x,fun i H x H'=>H'=H/\∀ xs,KW K H a xs->xs[i]?=some x,fun i H=>∃ xs,KW K H a xs/\xs.length<=i⟩
def Dr (K:ZF) (a:Addr):It:=
 ⟨fun i H=>∃ xs x,KP K H a xs/\xs[i]?=some x,fun i H x H'=>H'=H/\∀ xs,KP K H a xs->xs[i]?=some x,fun i H=>∃ xs,KP K H a xs/\xs.length<=i⟩
def Ds (lo:Int) (n:Nat):It:=⟨fun i _=>i < n,fun i H x H'=>H'=H/\x=.int (lo+i),fun i _=>n<=i⟩
variable {tg:Expr} {K:ZF}
theorem uC (a it:Addr):pF P w K tg (Dq K a) [it] it (fun i h=>h.IsListIter it a i) where
 mem:=by simp
 obj:=fun i h st b hb=>by
  have e:b=it:=by simpa using hb
  subst e
  obtain ⟨o,e,c,d⟩:=st
  exact ⟨o,e,fun v z=>by rw [d] at z;cases z⟩
 keep:=fun i h h' st k=>st.at fun o e=>k it (by simp) o e
 item:=by
  intro X hP hw hK hc i IP s σ H E I hf st hg
  subst hP hw hK
  obtain ⟨xs,x,hq,hx⟩:=hg
  obtain ⟨its,rv,p,hz⟩:=I.list hq
  obtain ⟨u,hu,ru⟩:=rv.get hx
  obtain ⟨f0,f1,f2,f3,f4,f5⟩:=hf it (by simp)
  refine wpAny_pyNext_list_item st p.isList (x:=u) (by simpa using hu) fun h' st' sb=>?_
  have I1:KQ X IP σ H { s with heap:=h' }:=I.turned (t':=s.toks) (fun b o hb e=>(sb.2 b hb).trans e) f0 f1 f3 f4 f5
  obtain ⟨o,e,c,d⟩:=id st'
  exact ⟨u,rfl,pG (s:={ s with heap:=h' }) e c d (by decide) ⟨x,H,I1,ru,⟨rfl,fun ys hy=>by rw [I.list_inj hy hq];exact hx⟩,st',fun b hb=>(hf b hb).1⟩⟩
 done:=by
  intro X hP hw hK hc i IP s σ H E I hf st hg
  subst hP hw hK
  obtain ⟨xs,hq,hx⟩:=hg
  obtain ⟨its,rv,p,hz⟩:=I.list hq
  obtain ⟨f0,f1,f2,f3,f4,f5⟩:=hf it (by simp)
  have hl:=rv.length
  exact wpAny_pyNext_list_end (I.ok.hd hc) st p.isList (by simp;lia) fun h' eb=>⟨rfl,I.turned (t':=s.toks) (fun b o hb e=>eb b o hb e) f0 f1 f3 f4 f5⟩
 self:=fun _ _ _ _ _ st h=>wpAny_pyIter_listiter st h
theorem qR (a it:Addr):pF P w K tg (Dr K a) [it] it (fun i h=>h.IsTupleIter it a i) where
 mem:=by simp
 obj:=fun i h st b hb=>by
  have e:b=it:=by simpa using hb
  subst e
  obtain ⟨o,e,c,d⟩:=st
  exact ⟨o,e,fun v z=>by rw [d] at z;cases z⟩
 keep:=fun i h h' st k=>st.at fun o e=>k it (by simp) o e
 item:=by
  intro X hP hw hK hc i IP s σ H E I hf st hg
  subst hP hw hK
  obtain ⟨xs,x,hq,hx⟩:=hg
  obtain ⟨its,rv,p,hz⟩:=I.tuple hq
  obtain ⟨u,hu,ru⟩:=rv.get hx
  obtain ⟨f0,f1,f2,f3,f4,f5⟩:=hf it (by simp)
  refine wpAny_pyNext_tuple_item st (show s.heap.IsTuple a its.toArray from p) (x:=u) (by simpa using hu) fun h' st' sb=>?_
  have I1:KQ X IP σ H { s with heap:=h' }:=I.turned (t':=s.toks) (fun b o hb e=>(sb.2 b hb).trans e) f0 f1 f3 f4 f5
  obtain ⟨o,e,c,d⟩:=id st'
  exact ⟨u,rfl,pG (s:={ s with heap:=h' }) e c d (by decide) ⟨x,H,I1,ru,⟨rfl,fun ys hy=>by rw [I.tuple_inj hy hq];exact hx⟩,st',fun b hb=>(hf b hb).1⟩⟩
 done:=by
  intro X hP hw hK hc i IP s σ H E I hf st hg
  subst hP hw hK
  obtain ⟨xs,hq,hx⟩:=hg
  obtain ⟨its,rv,p,hz⟩:=I.tuple hq
  obtain ⟨f0,f1,f2,f3,f4,f5⟩:=hf it (by simp)
  have hl:=rv.length
  exact wpAny_pyNext_tuple_end (I.ok.hd hc) st (show s.heap.IsTuple a its.toArray from p) (by simp;lia) fun h' eb=>⟨rfl,I.turned (t':=s.toks) (fun b o hb e=>eb b o hb e) f0 f1 f3 f4 f5⟩
 self:=fun _ _ _ _ _ st h=>wpAny_pyIter_tupleiter st h
theorem qS (it:Addr) (lo:Int) (n:Nat):pF P w K tg (Ds lo n) [it] it (fun i h=>IsRangeIter h it (lo+(i:Nat)*1) ((n:Int) - (i:Nat)) 1) where
 mem:=by simp
 obj:=fun i h st b hb=>by
  have e:b=it:=by simpa using hb
  subst e
  exact ⟨_,st,fun v z=>by
   have z':Data.fields _=Data.cell v:=z
   cases z'⟩
 keep:=fun i h h' st k=>k it (by simp) _ st
 item:=by
  intro X hP hw hK hc i IP s σ H E I hf st hg
  subst hP hw hK
  obtain ⟨f0,f1,f2,f3,f4,f5⟩:=hf it (by simp)
  have W:=Walks.range (prog:=X.prog) (w:=X.w) (I.ok.hd hc) it lo 1 n
  refine W.item i s _ _ hg st fun v h' tk hv st' kk=>?_
  obtain ⟨t,rfl⟩:=hv
  have I1:KQ X IP σ H { s with heap:=h',toks:=tk }:=I.turned (fun b o hb e=>kk b o (by simpa using hb) e) f0 f1 f3 f4 f5
  refine ⟨_,rfl,pG (s:={ s with heap:=h',toks:=tk }) (n:="range_iterator") st' rfl rfl (by decide) ⟨.int (lo+i),H,I1,⟨t,?_⟩,⟨rfl,rfl⟩,st',fun b hb=>(hf b hb).1⟩⟩
  rw [Int.mul_one]
 done:=by
  intro X hP hw hK hc i IP s σ H E I hf st hg
  subst hP hw hK
  obtain ⟨f0,f1,f2,f3,f4,f5⟩:=hf it (by simp)
  exact wpAny_pyNext_range_end (I.ok.hd hc) st (by have:n<=i:=hg;lia) fun h' eb=>⟨rfl,I.turned (t':=s.toks) (fun b o hb e=>eb b o hb e) f0 f1 f3 f4 f5⟩
 self:=fun _ _ _ _ _ st h=>wpAny_pyIter_rangeiter st h
section
variable {X:Cx} {tg:Expr}
inductive vN (K:ZF) (R:It->Hp->Prop) (x:V) (H1:Hp):Prop
 | mk (a:_):x=.ref a->(∃ xs,KW K H1 a xs)->R (Dq K a) H1->vN K R x H1
def DI (K:ZF) (tl:TE):TI:=fun σ H R=>tl σ H fun x H1=>vN K R x H1
inductive AA (K:ZF) (R:It->Hp->Prop) (x:V) (H1:Hp):Prop
 | mk (a:_):x=.ref a->(∃ xs,KP K H1 a xs)->R (Dr K a) H1->AA K R x H1
def Fs (K:ZF) (tl:TE):TI:=fun σ H R=>tl σ H fun x H1=>AA K R x H1
theorem fr {l:Expr} {tl:TE} (hl:PE X l tl):PI X tg l (DI X.K tl):=by
 refine ⟨?_⟩
 intro IP s σ H R I h
 refine bM (hl IP s σ H _ I h) fun v s1 ⟨x,H1,I1,r1,q1⟩=>?_
 obtain ⟨a,e,⟨xs,hq⟩,q⟩:=q1
 subst e
 cases r1
 obtain ⟨its,rv,p,hz⟩:=I1.list hq
 refine wpAny_pyIter_list p.isList ?_
 refine ⟨s1.heap.objs.size,[s1.heap.objs.size],_,_,H1,rfl,I1.kept (t':=s1.toks) fun b o e=>GI _ e,uC a _,⟨_,GZ _ rfl,rfl,rfl⟩,fun b hb=>?_,q⟩
 have e:b=s1.heap.objs.size:=by simpa using hb
 subst e
 exact I1.fpOk (GE _) (I1.hok.fresh (GE _))
theorem ft {l:Expr} {tl:TE} (hl:PE X l tl):PI X tg l (Fs X.K tl):=by
 refine ⟨?_⟩
 intro IP s σ H R I h
 refine bM (hl IP s σ H _ I h) fun v s1 ⟨x,H1,I1,r1,q1⟩=>?_
 obtain ⟨a,e,⟨xs,hq⟩,q⟩:=q1
 subst e
 cases r1
 obtain ⟨its,rv,p,hz⟩:=I1.tuple hq
 refine wpAny_pyIter_tuple (show s1.heap.IsTuple a its.toArray from p) ?_
 refine ⟨s1.heap.objs.size,[s1.heap.objs.size],_,_,H1,rfl,I1.kept (t':=s1.toks) fun b o e=>GI _ e,qR a _,⟨_,GZ _ rfl,rfl,rfl⟩,fun b hb=>?_,q⟩
 have e:b=s1.heap.objs.size:=by simpa using hb
 subst e
 exact I1.fpOk (GE _) (I1.hok.fresh (GE _))
theorem vO {R:It->Hp->Prop} {E:Value->Shared->Prop} {lo hi:Int} {t u v:Tok} {tk:Nat} (I:KQ X IP σ H s) (h1:-(2 ^ 62)<=lo) (h2:lo < 2 ^ 62) (h3:-(2 ^ 62)<=hi) (h4:hi < 2 ^ 62)
  (q:R (Ds lo (hi - lo).toNat) H):wpAny (model X.prog X.w) X.A (pyIter (.ref s.heap.objs.size)) (E9 X IP σ tg R) E { s with heap:=s.heap.push { cls:=.type "range",data:=.fields #[.int lo t,.int hi u,.int 1 v] },toks:=tk }:=by
 refine wpAny_pyIter_range (IsRange.new ..) (small_one h1 h2 h3 h4) ?_
 have I1:KQ X IP σ H { s with heap:=s.heap.push { cls:=.type "range",data:=.fields #[.int lo t,.int hi u,.int 1 v] },toks:=tk }:=I.kept fun b o e=>GI _ e
 refine ⟨(s.heap.push { cls:=.type "range",data:=.fields #[.int lo t,.int hi u,.int 1 v] }).objs.size,[(s.heap.push { cls:=.type "range",data:=.fields #[.int lo t,.int hi u,.int 1 v] }).objs.size],_,_,H,rfl,
  I1.kept (t':=tk) fun b o e=>GI _ e,qS _ lo (hi - lo).toNat,?_,fun b hb=>?_,q⟩
 ·have e1:lo+((0:Nat):Int)*1=lo:=by simp
  have e2:(((hi - lo).toNat:Nat):Int) - ((0:Nat):Int)=Builtin.Range.rangeSize lo hi 1:=by rw [rangeSize_one];split<;>lia
  show IsRangeIter _ _ (lo+((0:Nat):Int)*1) ((((hi - lo).toNat:Nat):Int) - ((0:Nat):Int)) 1
  rw [e1,e2]
  exact GZ _ rfl
 ·have e:b=(s.heap.push { cls:=.type "range",data:=.fields #[.int lo t,.int hi u,.int 1 v] }).objs.size:=by simpa using hb
  subst e
  exact I1.fpOk (GE _) (I1.hok.fresh (GE _))
inductive vP (R:It->Hp->Prop) (vs:List V) (H1:Hp):Prop
 | mk (j:Int):vs=[.int j]->-(2 ^ 62)<=j->j < 2 ^ 62->R (Ds 0 j.toNat) H1->vP R vs H1
def DJ (ta:TA):TI:=fun σ H R=>ta σ H fun vs H1=>vP R vs H1
theorem gC {a:Expr} {ta:TA} {p pos:Pos} (hg:Gl X "range") (hm:X.mg "range"=none) (ha:PA X [a] ta) (hs:starEach [a] X.env=[(false,eval a X.env)]:=by rfl):PI X tg (.Call (.Name "range" p) [a] [] pos) (DJ ta):=by
 refine ⟨?_⟩
 intro IP s σ H R I h
 refine Call_ (jl I hg hm boot_range (HQ (bM (ha pos IP s σ H _ I h) fun us s1 ⟨vs,H1,I1,r1,q1⟩=>?_) hs rfl))
 obtain ⟨j,e,q1,q2,q⟩:=q1
 subst e
 cases r1 with
 | cons r rr=>
  cases rr
  obtain ⟨t,rfl⟩:=r
  exact call_range_1 (vO I1 (by lia) (by lia) q1 q2 (by simpa using q))
def Ft (wi:TI) (g:TG) (tb:TS):TS:=fun D σ H=>wi σ H fun J H1=>∃ W:Nat->Nat->St->Hp->Prop,(∃ m,W 0 m σ H1)/\∀ i m σ H,W i m σ H->
 (J.stop i H/\D.nx σ H)\/(J.go i H/\∃ N:St->Hp->Prop,(∀ σ' H',N σ' H'->∃ m',m' < m/\W (i+1) m' σ' H')/\∀ x H',J.yld i H x H'->g x σ H' fun σ2 H2=>tb { D with nx:=N,ct:=N,bk:=D.nx } σ2 H2)
def eQ (fp:List Addr) (h:Heap):List (Addr×Obj):=fp.filterMap fun b=>(h.get? b).map fun o=>(b,o)
variable {fp:List Addr}
theorem hZ {o:Obj} (hb:b∈fp) (e:h.get? b=some o):(b,o)∈eQ fp h:=List.mem_filterMap.mpr ⟨b,hb,by rw [e];rfl⟩
theorem mH {p:Addr×Obj} (hp:p∈eQ fp h):p.1∈fp/\h.get? p.1=some p.2:=by
 obtain ⟨b,hb,e⟩:=List.mem_filterMap.mp hp
 cases q:h.get? b with
 | none=>rw [q] at e;cases e
 | some o=>
  rw [q] at e
  have e':(b,o)=p:=Hd e
  subst e'
  exact ⟨hb,q⟩
theorem KQ.pinned (I:KQ X IP σ H s) (hf:∀ b∈fp,mx X IP H b) (ho:∀ b∈fp,∃ o,s.heap.get? b=some o/\∀ v,o.data≠.cell v):KQ X (IP++eQ fp s.heap) σ H s:=
 I.pins_of fun p hp=>(GP.mp hp).elim (fun z=>I.pin p (GN _ z)) fun z=>by
  obtain ⟨hb,e⟩:=mH z
  obtain ⟨f0,f1,f2,_⟩:=hf p.1 hb
  obtain ⟨o,e',d⟩:=ho p.1 hb
  rw [e] at e';cases e'
  exact ⟨e,f0,f1,f2,d⟩
theorem KQ.unpinned {IP pl:List (Addr×Obj)} (I:KQ X (IP++pl) σ H s):KQ X IP σ H s:=I.pins_of fun p hp=>I.pin p (GN _ (Hu _ hp))
theorem cr {iter:Expr} {body:List Stmt} {wi:TI} {g:TG} {tb:TS} {pos:Pos} (hp:PassesOwn (model X.prog X.w) X.A X.env X.xe) (hc:X.calm=true) (hi:PI X tg iter wi) (hg:PG X tg g) (hb:Mo X body tb)
  (hs:∀ x,foldedSetIterable iter X.env x=pure x:=by intro _;rfl):PS X (.For tg iter body [] pos) (Ft wi g tb):=by
 refine ⟨?_⟩
 intro IP s σ H D I h
 refine wpAny_For (bM (hi IP s σ H _ I h) fun v s1 h1=>bM h1 fun itv s2 h2=>?_) hs
 obtain ⟨it,fp,tn,J,H2,e,I2,T,st2,f2,W,⟨m0,w0⟩,turn⟩:=h2
 subst e
 have stat:∀ {H':Hp},(∀ b∈fp,H' b=none)->∀ b∈fp,mx X IP H' b:=fun hn b hb=>⟨hn b hb,(f2 b hb).2⟩
 refine codeAny_forLoop_any (fun n s'=>∃ i σ' H',KQ X IP σ' H' s'/\tn i s'.heap/\(∀ b∈fp,H' b=none)/\W i n σ' H') ?_ m0 ⟨0,σ,H2,I2,st2,fun b hb=>(f2 b hb).1,w0⟩
 rintro n s3 ⟨i,σ3,H3,I3,st3,fr3,w3⟩
 rcases turn i n σ3 H3 w3 with ⟨stop,qn⟩|⟨go,N,hN,step⟩
 ·refine wpAny_passesOwn hp (bM (T.done X rfl rfl rfl hc i IP s3 σ3 H3 X.xe I3 (stat fr3) st3 stop) fun r s4 ⟨hr,I4⟩=>?_)
  subst hr
  exact wpAny_execs_nil ⟨σ3,H3,I4,qn⟩
 ·refine wpAny_passesOwn hp (bM (T.item X rfl rfl rfl hc i IP s3 σ3 H3 X.xe I3 (stat fr3) st3 go) fun r s4 ⟨u,hr,h4⟩=>?_)
  subst hr
  refine wpAny_passesOwn hp (bM h4 fun _ s5 ⟨x,H5,I5,r5,y5,st5,fr5⟩=>?_)
  have I5':=I5.pinned (stat fr5) (T.obj _ _ st5)
  refine wpAny_passesOwn hp (bM (hg _ s5 σ3 H5 x u _ I5' r5 (step x H5 y5)) fun _ s6 ⟨σ6,H6,I6,q6⟩=>?_)
  refine wpAny_passesOwn hp (bM (hb _ s6 σ6 H6 _ I6 q6) fun f s7 q7=>?_)
  have again:∀ {σ7:St} {H7:Hp},KQ X (IP++eQ fp s5.heap) σ7 H7 s7->N σ7 H7->∃ m,m < n/\∃ i σ' H',KQ X IP σ' H' s7/\tn i s7.heap/\(∀ b∈fp,H' b=none)/\W i m σ' H':=fun {σ7 H7} I7 n7=>by
   obtain ⟨m',hm,w7⟩:=hN σ7 H7 n7
   refine ⟨m',hm,i+1,σ7,H7,I7.unpinned,T.keep _ _ _ st5 fun b hb o e=>(I7.pin (b,o) (GN _ (GN _ (hZ hb e)))).1,fun b hb=>?_,w7⟩
   obtain ⟨o,e,d⟩:=T.obj _ _ st5 b hb
   exact (I7.pin (b,o) (GN _ (GN _ (hZ hb e)))).2.1
  cases f with
  | next=>obtain ⟨σ7,H7,I7,n7⟩:=q7;exact again I7 n7
  | cont=>obtain ⟨σ7,H7,I7,n7⟩:=q7;exact again I7 n7
  | brk=>obtain ⟨σ7,H7,I7,q7⟩:=q7;exact ⟨σ7,H7,I7.unpinned,q7⟩
  | ret v=>obtain ⟨x7,σ7,H7,I7,r7,q7⟩:=q7;exact ⟨x7,σ7,H7,I7.unpinned,r7,q7⟩
end
theorem pH {g:TG} {tb:TS} {D:dJ} (Pv:Nat->St->Hp->Prop) (h0:Pv 0 σ H) (hl:∀ i σ H,i<=xs.length->Pv i σ H->KW K H a xs)
  (hs:∀ i x σ H,xs[i]?=some x->Pv i σ H->g x σ H fun σ2 H2=>tb { D with nx:=Pv (i+1),ct:=Pv (i+1),bk:=D.nx } σ2 H2) (hd:∀ σ H,Pv xs.length σ H->D.nx σ H) :
  ∃ W:Nat->Nat->St->Hp->Prop,(∃ m,W 0 m σ H)/\∀ i m σ H,W i m σ H->
   ((Dq K a).stop i H/\D.nx σ H)\/((Dq K a).go i H/\∃ N:St->Hp->Prop,(∀ σ' H',N σ' H'->∃ m',m' < m/\W (i+1) m' σ' H')/\∀ x H',(Dq K a).yld i H x H'->g x σ H' fun σ2 H2=>tb { D with nx:=N,ct:=N,bk:=D.nx } σ2 H2):=by
 refine ⟨fun i m σ H=>m=xs.length - i/\i<=xs.length/\Pv i σ H,⟨xs.length,by simp,Hj _,h0⟩,?_⟩
 rintro i m σ H ⟨rfl,hi,p⟩
 have q:=hl i σ H hi p
 by_cases Je:i < xs.length
 ·refine .inr ⟨⟨xs,xs[i],q,by simp [Je]⟩,Pv (i+1),fun σ' H' p'=>⟨xs.length - (i+1),by lia,rfl,Je,p'⟩,fun x H' y=>?_⟩
  obtain ⟨e,y⟩:=y
  subst e
  exact hs i x σ _ (y xs q) p
 ·have e:i=xs.length:=by lia
  subst e
  exact .inl ⟨⟨xs,q,GE _⟩,hd σ H p⟩
theorem gD {g:TG} {tb:TS} {D:dJ} (Pv:Nat->St->Hp->Prop) (h0:Pv 0 σ H) (hl:∀ i σ H,i<=xs.length->Pv i σ H->KP K H a xs)
  (hs:∀ i x σ H,xs[i]?=some x->Pv i σ H->g x σ H fun σ2 H2=>tb { D with nx:=Pv (i+1),ct:=Pv (i+1),bk:=D.nx } σ2 H2) (hd:∀ σ H,Pv xs.length σ H->D.nx σ H) :
  ∃ W:Nat->Nat->St->Hp->Prop,(∃ m,W 0 m σ H)/\∀ i m σ H,W i m σ H->
   ((Dr K a).stop i H/\D.nx σ H)\/((Dr K a).go i H/\∃ N:St->Hp->Prop,(∀ σ' H',N σ' H'->∃ m',m' < m/\W (i+1) m' σ' H')/\∀ x H',(Dr K a).yld i H x H'->g x σ H' fun σ2 H2=>tb { D with nx:=N,ct:=N,bk:=D.nx } σ2 H2):=by
 refine ⟨fun i m σ H=>m=xs.length - i/\i<=xs.length/\Pv i σ H,⟨xs.length,by simp,Hj _,h0⟩,?_⟩
 rintro i m σ H ⟨rfl,hi,p⟩
 have q:=hl i σ H hi p
 by_cases Je:i < xs.length
 ·refine .inr ⟨⟨xs,xs[i],q,by simp [Je]⟩,Pv (i+1),fun σ' H' p'=>⟨xs.length - (i+1),by lia,rfl,Je,p'⟩,fun x H' y=>?_⟩
  obtain ⟨e,y⟩:=y
  subst e
  exact hs i x σ _ (y xs q) p
 ·have e:i=xs.length:=by lia
  subst e
  exact .inl ⟨⟨xs,q,GE _⟩,hd σ H p⟩
theorem gE {lo:Int} {n:Nat} {g:TG} {tb:TS} {D:dJ} (Pv:Nat->St->Hp->Prop) (h0:Pv 0 σ H)
  (hs:∀ i σ H,i < n->Pv i σ H->g (.int (lo+i)) σ H fun σ2 H2=>tb { D with nx:=Pv (i+1),ct:=Pv (i+1),bk:=D.nx } σ2 H2) (hd:∀ σ H,Pv n σ H->D.nx σ H) :
  ∃ W:Nat->Nat->St->Hp->Prop,(∃ m,W 0 m σ H)/\∀ i m σ H,W i m σ H->
   ((Ds lo n).stop i H/\D.nx σ H)\/((Ds lo n).go i H/\∃ N:St->Hp->Prop,(∀ σ' H',N σ' H'->∃ m',m' < m/\W (i+1) m' σ' H')/\∀ x H',(Ds lo n).yld i H x H'->g x σ H' fun σ2 H2=>tb { D with nx:=N,ct:=N,bk:=D.nx } σ2 H2):=by
 refine ⟨fun i m σ H=>m=n - i/\i<=n/\Pv i σ H,⟨n,by simp,Hj _,h0⟩,?_⟩
 rintro i m σ H ⟨rfl,hi,p⟩
 by_cases Je:i < n
 ·refine .inr ⟨Je,Pv (i+1),fun σ' H' p'=>⟨n - (i+1),by lia,rfl,Je,p'⟩,fun x H' y=>?_⟩
  obtain ⟨e,y⟩:=y
  subst e y
  exact hs i σ _ Je p
 ·have e:i=n:=by lia
  subst e
  exact .inl ⟨GE _,hd σ H p⟩
abbrev R2:=V->V->Hp->VK->Prop
def fR (X:Cx) (f:Value->Value->Sem Value) (r:R2):Prop:=
 ∀ (IP:List (Addr×Obj)) (s:Shared) (σ:St) (H:Hp) (x y:V) (v u:Value) (Q:VK),KQ X IP σ H s->K1 x v->K1 y u->r x y H Q->
  wpAny (model X.prog X.w) X.A (f v u) (EP X IP σ Q) X.xe s
def Fu (X:Cx) (f:Value->Sem Value) (r:V->Hp->VK->Prop):Prop:=
 ∀ (IP:List (Addr×Obj)) (s:Shared) (σ:St) (H:Hp) (x:V) (v:Value) (Q:VK),KQ X IP σ H s->K1 x v->r x H Q->
  wpAny (model X.prog X.w) X.A (f v) (EP X IP σ Q) X.xe s
def dN (X:Cx) (f:Value) (r:List V->Hp->VK->Prop):Prop:=
 ∀ (IP:List (Addr×Obj)) (s:Shared) (σ:St) (H:Hp) (xs:List V) (us:List Value) (Q:VK),KQ X IP σ H s->K2 xs us->r xs H Q->
  wpAny (model X.prog X.w) X.A (call f us) (EP X IP σ Q) X.xe s
def DK (r:R2) (ta tb:TE):TE:=fun σ H Q=>ta σ H fun x H1=>tb σ H1 fun y H2=>r x y H2 Q
def Gm (r:V->Hp->VK->Prop) (ta:TE):TE:=fun σ H Q=>ta σ H fun x H1=>r x H1 Q
inductive rI (C:Int->Int->Prop) (g:Int->Int->V) (x:V) (y:V) (H:Hp) (Q:VK):Prop
 | mk (i j:_):x=.int i->y=.int j->C i j->Q (g i j) H->rI C g x y H Q
inductive yO (g:Int->Int->V) (x:V) (y:V) (H:Hp) (Q:VK):Prop
 | mk (i j:_):x=.int i->y=.int j->Q (g i j) H->yO g x y H Q
inductive rU (g:Int->V) (x:V) (H:Hp) (Q:VK):Prop
 | mk (i:_):x=.int i->Q (g i) H->rU g x H Q
section
variable {X:Cx} {a b c:Expr} {ta tb tc:TE} {pos:Pos}
theorem Bw (ha:PE X a ta) (hb:PE X b tb) {R:V->V->Hp->Prop} (I:KQ X IP σ H s)
  (h:ta σ H fun x H1=>tb σ H1 fun y H2=>R x y H2) {Q:Value->Shared->Prop} {f:Value->Value->Sem Value}
  (hf:∀ v u s2 x y H2,KQ X IP σ H2 s2->K1 x v->K1 y u->R x y H2->wpAny (model X.prog X.w) X.A (f v u) Q X.xe s2) :
  wpAny (model X.prog X.w) X.A (eval a X.env) (fun v s₁=>wpAny (model X.prog X.w) X.A (eval b X.env) (fun u s₂=>wpAny (model X.prog X.w) X.A (f v u) Q X.xe s₂) X.xe s₁) X.xe s:=by
 refine bM (ha IP s σ H _ I h) fun v s1 ⟨x,H1,I1,r1,q1⟩=>?_
 refine bM (hb IP s1 σ H1 _ I1 q1) fun u s2 ⟨y,H2,I2,r2,q2⟩=>?_
 exact hf v u s2 x y H2 I2 r1 r2 q2
theorem ar {op:Operator} {r:R2} (ho:fR X (binaryOp op) r) (ha:PE X a ta) (hb:PE X b tb):PE X (.BinOp a op b pos) (DK r ta tb):=by
 refine ⟨?_⟩
 intro IP s σ H Q I h
 exact wpAny_BinOp (Bw ha hb I h fun v u s2 x y H2 I2 rx ry q=>ho IP s2 σ H2 x y v u Q I2 rx ry q)
theorem DL {op:UnaryOp} {r:V->Hp->VK->Prop} (ho:Fu X (unaryOp op) r) (ha:PE X a ta):PE X (.UnaryOp op a pos) (Gm r ta):=by
 refine ⟨?_⟩
 intro IP s σ H Q I h
 exact UnaryOp_ (bM (ha IP s σ H _ I h) fun v s1 ⟨x,H1,I1,r1,q1⟩=>ho IP s1 σ H1 x v Q I1 r1 q1)
theorem Du {f:Value->Value->Sem Value} {C:Int->Int->Prop} {g:Int->Int->Int}
  (rule:∀ (i j:Int) (t u:Tok) (s:Shared) (Q:Value->Shared->Prop) (E:Value->Shared->Prop),C i j->Q (.int (g i j) s.toks) { s with toks:=s.toks+1 }->wpAny (model X.prog X.w) X.A (f (.int i t) (.int j u)) Q E s) :
  fR X f (rI C fun i j=>.int (g i j)):=by
 intro IP s σ H x y v u Q I rx ry h
 obtain ⟨i,j,rfl,rfl,hc,q⟩:=h
 obtain ⟨t,rfl⟩:=rx
 obtain ⟨t',rfl⟩:=ry
 exact rule i j t t' s _ _ hc ⟨.int (g i j),H,I.tok _,⟨_,rfl⟩,q⟩
theorem DM {f:Value->Value->Sem Value} {g:Int->Int->Int}
  (rule:∀ (i j:Int) (t u:Tok) (s:Shared) (Q:Value->Shared->Prop) (E:Value->Shared->Prop),Q (.int (g i j) s.toks) { s with toks:=s.toks+1 }->wpAny (model X.prog X.w) X.A (f (.int i t) (.int j u)) Q E s) :
  fR X f (yO fun i j=>.int (g i j)):=by
 intro IP s σ H x y v u Q I rx ry h
 obtain ⟨i,j,rfl,rfl,q⟩:=h
 obtain ⟨t,rfl⟩:=rx
 obtain ⟨t',rfl⟩:=ry
 exact rule i j t t' s _ _ ⟨.int (g i j),H,I.tok _,⟨_,rfl⟩,q⟩
theorem yP {f:Value->Value->Sem Value} {g:Int->Int->Bool}
  (rule:∀ (i j:Int) (t u:Tok) (s:Shared) (Q:Value->Shared->Prop) (E:Value->Shared->Prop),Q (.bool (g i j)) s->wpAny (model X.prog X.w) X.A (f (.int i t) (.int j u)) Q E s) :
  fR X f (yO fun i j=>.bl (g i j)):=by
 intro IP s σ H x y v u Q I rx ry h
 obtain ⟨i,j,rfl,rfl,q⟩:=h
 obtain ⟨t,rfl⟩:=rx
 obtain ⟨t',rfl⟩:=ry
 exact rule i j t t' s _ _ ⟨.bl (g i j),H,I,rfl,q⟩
def Fv (i j:Int):Prop:=0 < j/\j < 1073741824
def DN (i j:Int):Prop:=0<=j/\j<=1000000/\i.natAbs < 2 ^ 64
def NH (i j:Int):Prop:=(-(2 ^ 64) < i/\i < 2 ^ 64)\/(-(2 ^ 64) < j/\j < 2 ^ 64)
theorem NH.ok {i j:Int} (h:NH i j):IntMulOk i j:=by
 rcases h with ⟨h1,h2⟩|⟨h1,h2⟩
 ·exact .of_left (intBits_le_64 h1 h2)
 ·exact .of_right (intBits_le_64 h1 h2)
theorem bW:fR X (binaryOp .Add) (yO fun i j=>.int (i+j)):=DM fun _ _ _ _ _ _ _ q=>add_int q
theorem eR:fR X (binaryOp .Sub) (yO fun i j=>.int (i - j)):=DM fun _ _ _ _ _ _ _ q=>sub_int q
theorem fv:fR X (binaryOp .Mult) (rI NH fun i j=>.int (i*j)):=Du fun _ _ _ _ _ _ _ hc q=>mul_int q hc.ok
theorem yQ:fR X (binaryOp .FloorDiv) (rI Fv fun i j=>.int (i / j)):=Du fun i j _ _ _ _ _ hc q=>by
 have h1:(0:Int) < j:=hc.1
 have h2:j < 1073741824:=hc.2
 exact floordiv_int (by lia) (by rw [Int.fdiv_eq_ediv_of_nonneg i (by lia)];exact q) (.inl (PyProof.noPylong_small (by lia)))
theorem eU:fR X (binaryOp .Mod) (rI (fun _ j=>0 < j) fun i j=>.int (i % j)):=Du fun i j _ _ _ _ _ hc q=>by
 have h1:(0:Int) < j:=hc
 exact mod_int' (by lia) (by rw [Int.fmod_eq_emod_of_nonneg i (by lia)];exact q)
theorem Bx:fR X (binaryOp .Pow) (rI DN fun i j=>.int (i ^ j.toNat)):=Du fun _ _ _ _ _ _ _ hc q=>pow_int_small hc.1 hc.2.1 hc.2.2 q
theorem vQ:fR X (binaryOp .LShift) (rI DN fun i j=>.int (i*2 ^ j.toNat)):=Du fun _ _ _ _ _ _ _ hc q=>lshift_int_small hc.1 hc.2.1 hc.2.2 q
theorem Gn {f:Value->Sem Value} {g:Int->Int}
  (rule:∀ (i:Int) (t:Tok) (s:Shared) (Q:Value->Shared->Prop) (E:Value->Shared->Prop),Q (.int (g i) s.toks) { s with toks:=s.toks+1 }->wpAny (model X.prog X.w) X.A (f (.int i t)) Q E s) :
  Fu X f (rU fun i=>.int (g i)):=by
 intro IP s σ H x v Q I rx h
 obtain ⟨i,rfl,q⟩:=h
 obtain ⟨t,rfl⟩:=rx
 exact rule i t s _ _ ⟨.int (g i),H,I.tok _,⟨_,rfl⟩,q⟩
theorem By:Fu X (unaryOp .USub) (rU fun i=>.int (-i)):=Gn fun _ _ _ _ _ q=>neg_int q
end
def Bz:V->V->Bool
 | .non,.non=>true|.non,.int _=>true|.int _,.non=>true|.non,.bl _=>true|.bl _,.non=>true|.non,.str _=>true|.str _,.non=>true
 | .int _,.int _=>true|.bl _,.bl _=>true|.str _,.str _=>true|.byt _,.byt _=>true
 | .int _,.str _=>true|.str _,.int _=>true|.bl _,.str _=>true|.str _,.bl _=>true
 | _,_=>false
def Go:R2:=fun x y H Q=>Bz x y=true/\Q (.bl (decide (x=y))) H
def Gp:R2:=fun x y H Q=>Bz x y=true/\Q (.bl (!decide (x=y))) H
theorem sP {i j:Int}:decide (V.int i=V.int j)=(i == j):=by
 rw [HG]
 simp
theorem vR {i j:Bool}:decide (V.bl i=V.bl j)=(i == j):=by
 rw [HG]
 simp
theorem sQ {i j:Str}:decide (V.str i=V.str j)=(i == j):=by
 rw [HG]
 simp
theorem sR {i j:Array UInt8}:decide (V.byt i=V.byt j)=(i.toList == j.toList):=by
 rw [HG]
 cases i
 cases j
 simp
section
variable {X:Cx} {a b c:Expr} {ta tb tc:TE} {pos:Pos}
theorem bv {Q:VK} {k k':Bool} (I:KQ X IP σ H s) (q:Q (.bl k) H) (e:k=k'):EP X IP σ Q (.bool k') s:=by
 subst e
 exact ⟨.bl k,H,I,rfl,q⟩
theorem be:fR X (compareOp .Eq) Go:=by
 intro IP s σ H x y v u Q I rx ry h
 obtain ⟨hs,q⟩:=h
 cases x with
 | non=>
  cases rx
  cases y with
  | non=>cases ry;exact PySem.EqNone.eq_none_none (bv I q (by simp))
  | bl j=>cases ry;exact PySem.EqNone.eq_none_bool (bv I q (by simp))
  | int j=>obtain ⟨t',rfl⟩:=ry;exact PySem.EqNone.eq_none_int (bv I q (by simp))
  | str j=>obtain ⟨t',rfl⟩:=ry;exact PySem.EqNone.eq_none_str (bv I q (by simp))
  | _=>exact absurd (show false=true from hs) GU
 | bl i=>
  cases rx
  cases y with
  | non=>cases ry;exact PySem.EqNone.eq_bool_none (bv I q (by simp))
  | bl j=>cases ry;exact eq_bool (bv I q vR)
  | str j=>obtain ⟨t',rfl⟩:=ry;exact PySem.EqMixed.eq_bool_str (bv I q (by simp))
  | _=>exact absurd (show false=true from hs) GU
 | int i=>
  obtain ⟨t,rfl⟩:=rx
  cases y with
  | non=>cases ry;exact PySem.EqNone.eq_int_none (bv I q (by simp))
  | int j=>obtain ⟨t',rfl⟩:=ry;exact eq_int (bv I q sP)
  | str j=>obtain ⟨t',rfl⟩:=ry;exact PySem.EqMixed.eq_int_str (bv I q (by simp))
  | _=>exact absurd (show false=true from hs) GU
 | str i=>
  obtain ⟨t,rfl⟩:=rx
  cases y with
  | non=>cases ry;exact PySem.EqNone.eq_str_none (bv I q (by simp))
  | bl j=>cases ry;exact PySem.EqMixed.eq_str_bool (bv I q (by simp))
  | int j=>obtain ⟨t',rfl⟩:=ry;exact PySem.EqMixed.eq_str_int (bv I q (by simp))
  | str j=>obtain ⟨t',rfl⟩:=ry;exact eq_str (bv I q sQ)
  | _=>exact absurd (show false=true from hs) GU
 | byt i=>
  obtain ⟨t,rfl⟩:=rx
  cases y with
  | byt j=>obtain ⟨t',rfl⟩:=ry;exact PySem.W.eq_bytes (bv I q sR)
  | _=>exact absurd (show false=true from hs) GU
 | _=>cases y<;>exact absurd (show false=true from hs) GU
theorem pI:fR X (compareOp .NotEq) Gp:=by
 intro IP s σ H x y v u Q I rx ry h
 obtain ⟨hs,q⟩:=h
 cases x with
 | non=>
  cases rx
  cases y with
  | non=>cases ry;exact PySem.EqNone.ne_none_none (bv I q (by simp))
  | bl j=>cases ry;exact PySem.EqNone.ne_none_bool (bv I q (by simp))
  | int j=>obtain ⟨t',rfl⟩:=ry;exact PySem.EqNone.ne_none_int (bv I q (by simp))
  | str j=>obtain ⟨t',rfl⟩:=ry;exact PySem.EqNone.ne_none_str (bv I q (by simp))
  | _=>exact absurd (show false=true from hs) GU
 | bl i=>
  cases rx
  cases y with
  | non=>cases ry;exact PySem.EqNone.ne_bool_none (bv I q (by simp))
  | bl j=>cases ry;exact ne_bool (bv I q (congrArg not vR))
  | str j=>obtain ⟨t',rfl⟩:=ry;exact PySem.EqMixed.ne_bool_str (bv I q (by simp))
  | _=>exact absurd (show false=true from hs) GU
 | int i=>
  obtain ⟨t,rfl⟩:=rx
  cases y with
  | non=>cases ry;exact PySem.EqNone.ne_int_none (bv I q (by simp))
  | int j=>obtain ⟨t',rfl⟩:=ry;exact ne_int (bv I q (congrArg not sP))
  | str j=>obtain ⟨t',rfl⟩:=ry;exact PySem.EqMixed.ne_int_str (bv I q (by simp))
  | _=>exact absurd (show false=true from hs) GU
 | str i=>
  obtain ⟨t,rfl⟩:=rx
  cases y with
  | non=>cases ry;exact PySem.EqNone.ne_str_none (bv I q (by simp))
  | bl j=>cases ry;exact PySem.EqMixed.ne_str_bool (bv I q (by simp))
  | int j=>obtain ⟨t',rfl⟩:=ry;exact PySem.EqMixed.ne_str_int (bv I q (by simp))
  | str j=>obtain ⟨t',rfl⟩:=ry;exact ne_str (bv I q (congrArg not sQ))
  | _=>exact absurd (show false=true from hs) GU
 | byt i=>
  obtain ⟨t,rfl⟩:=rx
  cases y with
  | byt j=>obtain ⟨t',rfl⟩:=ry;exact PySem.W.ne_bytes (bv I q (congrArg not sR))
  | _=>exact absurd (show false=true from hs) GU
 | _=>cases y<;>exact absurd (show false=true from hs) GU
theorem dD:fR X (compareOp .Lt) (yO fun i j=>.bl (decide (i < j))):=yP fun _ _ _ _ _ _ _ q=>lt_int q
theorem iK:fR X (compareOp .LtE) (yO fun i j=>.bl (decide (i<=j))):=yP fun _ _ _ _ _ _ _ q=>le_int q
theorem kJ:fR X (compareOp .Gt) (yO fun i j=>.bl (decide (j < i))):=yP fun _ _ _ _ _ _ _ q=>gt_int q
theorem DP:fR X (compareOp .GtE) (yO fun i j=>.bl (decide (j<=i))):=yP fun _ _ _ _ _ _ _ q=>ge_int q
theorem dW:fR X (compareOp .In) (fun x y H Q=>∃ i j,x=.str i/\y=.str j/\Q (.bl (!(Builtin.Str.occurrences j i 0 j.length 1).isEmpty)) H):=by
 intro IP s σ H x y v u Q I rx ry h
 obtain ⟨i,j,rfl,rfl,q⟩:=h
 obtain ⟨t,rfl⟩:=rx
 obtain ⟨t',rfl⟩:=ry
 exact in_str (bv I q rfl)
theorem BA:fR X (compareOp .Is) (fun x y H Q=>y=.non/\Q (.bl (decide (x=.non))) H):=by
 intro IP s σ H x y v u Q I rx ry h
 obtain ⟨rfl,q⟩:=h
 cases ry
 refine is_none_gen (bv I q ?_)
 cases x<;>first
  | (cases rx;rfl)
  | (obtain ⟨t,rfl⟩:=rx;rfl)
theorem nD:fR X (compareOp .NotIn) (fun x y H Q=>∃ i j,x=.str i/\y=.str j/\Q (.bl (!(!(Builtin.Str.occurrences j i 0 j.length 1).isEmpty))) H):=by
 intro IP s σ H x y v u Q I rx ry h
 obtain ⟨i,j,rfl,rfl,q⟩:=h
 obtain ⟨t,rfl⟩:=rx
 obtain ⟨t',rfl⟩:=ry
 exact notIn_str (bv I q rfl)
variable {op:CmpOp}
theorem av (b:Expr) (h:op≠.In:=by decide) (h2:op≠.NotIn:=by decide):behindInMarks op b=false:=by
 have e1:(op == CmpOp.In)=false:=by cases op<;>first|rfl|exact absurd rfl h
 have e2:(op == CmpOp.NotIn)=false:=by cases op<;>first|rfl|exact absurd rfl h2
 cases b<;>simp [behindInMarks,e1,e2]
theorem cn {r:R2} (ho:fR X (compareOp op) r) (ha:PE X a ta) (hb:PE X b tb) (hm:behindInMarks op b=false):PE X (.Compare a [op] [b] pos) (DK r ta tb):=by
 refine ⟨?_⟩
 intro IP s σ H Q I h
 exact wpAny_Compare1 (Bw ha hb I h fun v u s2 x y H2 I2 rx ry q=>ho IP s2 σ H2 x y v u Q I2 rx ry q) hm
inductive vS (Q:Bool->Hp->Prop) (x:V) (H':Hp):Prop
 | mk (k:_):x=.bl k->Q k H'->vS Q x H'
def AB (t:TE):TT:=fun σ H Q=>t σ H fun x H'=>vS Q x H'
theorem ak {r:R2} (ho:fR X (compareOp op) r) (ha:PE X a ta) (hb:PE X b tb) (hm:behindInMarks op b=false):PT X (.Compare a [op] [b] pos) (AB (DK r ta tb)):=by
 refine ⟨?_⟩
 intro IP s σ H Q I h
 refine wpAny_isTrue_Compare1 (bM (ha IP s σ H _ I h) fun v s1 ⟨x,H1,I1,r1,q1⟩=>bM (hb IP s1 σ H1 _ I1 q1) fun u s2 ⟨y,H2,I2,r2,q2⟩=>
  bM (ho IP s2 σ H2 x y v u _ I2 r1 r2 q2) fun c s3 ⟨z,H3,I3,r3,k,e,q3⟩=>?_) hm
 subst e
 cases r3
 exact wpAny_truthy_bool ⟨H3,I3,q3⟩
inductive sS (r':R2) (tc:TE) (σ:St) (Q:VK) (y:V) (z:V) (H3:Hp):Prop
 | mk (k:_):z=.bl k->(if k=true then tc σ H3 fun w' H4=>r' y w' H4 Q else Q (.bl false) H3)->sS r' tc σ Q y z H3
def vT (r r':R2) (ta tb tc:TE):TE:=fun σ H Q=>ta σ H fun x H1=>tb σ H1 fun y H2=>r x y H2 fun z H3=>sS r' tc σ Q y z H3
theorem kK {op op':CmpOp} {r r':R2} (ho:fR X (compareOp op) r) (ho':fR X (compareOp op') r') (ha:PE X a ta) (hb:PE X b tb) (hc:PE X c tc)
  (hm:lastMarks [op,op'] [b,c]=false:=by with_unfolding_all rfl):PE X (.Compare a [op,op'] [b,c] pos) (vT r r' ta tb tc):=by
 refine ⟨?_⟩
 intro IP s σ H Q I h
 refine Compare_chain (bM (ha IP s σ H _ I h) fun v s1 ⟨x,H1,I1,r1,q1⟩=>chain_link (bM (hb IP s1 σ H1 _ I1 q1) fun u s2 ⟨y,H2,I2,r2,q2⟩=>
  bM (ho IP s2 σ H2 x y v u _ I2 r1 r2 q2) fun d s3 ⟨z,H3,I3,r3,k,e,q3⟩=>?_)) hm
 subst e
 cases r3
 refine wpAny_truthy_bool ?_
 cases k with
 | false=>exact ite_ff ⟨.bl false,H3,I3,rfl,q3⟩
 | true=>exact ite_tt (chain_last (bM (hc IP s3 σ H3 _ I3 q3) fun w' s4 ⟨z',H4,I4,r4,q4⟩=>ho' IP s4 σ H4 y z' u w' Q I4 r2 r4 q4))
theorem pJ {op op':CmpOp} {r r':R2} (ho:fR X (compareOp op) r) (ho':fR X (compareOp op') r') (ha:PE X a ta) (hb:PE X b tb) (hc:PE X c tc)
  (hm:lastMarks [op,op'] [b,c]=false:=by with_unfolding_all rfl):PT X (.Compare a [op,op'] [b,c] pos) (AB (vT r r' ta tb tc)):=by
 refine ⟨?_⟩
 intro IP s σ H Q I h
 refine isTrue_chain (bM (ha IP s σ H _ I h) fun v s1 ⟨x,H1,I1,r1,q1⟩=>test_link (bM (hb IP s1 σ H1 _ I1 q1) fun u s2 ⟨y,H2,I2,r2,q2⟩=>
  bM (ho IP s2 σ H2 x y v u _ I2 r1 r2 q2) fun d s3 ⟨z,H3,I3,r3,k,e,q3⟩=>?_)) hm
 subst e
 cases r3
 refine wpAny_truthy_bool ?_
 cases k with
 | false=>
  obtain ⟨k',e',q'⟩:=q3
  cases e'
  exact ite_ff ⟨H3,I3,q'⟩
 | true=>
  refine ite_tt (test_last (bM (hc IP s3 σ H3 _ I3 q3) fun w' s4 ⟨z',H4,I4,r4,q4⟩=>bM (ho' IP s4 σ H4 y z' u w' _ I4 r2 r4 q4) fun d' s5 ⟨z2,H5,I5,r5,k2,e2,q5⟩=>?_))
  subst e2
  cases r5
  exact wpAny_truthy_bool ⟨H5,I5,q5⟩
theorem jo:(sizeLine:Nat) < 2 ^ 63:=by rw [sizeLine_eq];decide
theorem aJ:fR X (binaryOp .Add) (fun x y H Q=>∃ i j,x=.str i/\y=.str j/\i.length+j.length<=sizeLine/\Q (.str (i++j)) H):=by
 intro IP s σ H x y v u Q I rx ry h
 obtain ⟨i,j,rfl,rfl,hz,q⟩:=h
 obtain ⟨t,rfl⟩:=rx
 obtain ⟨t',rfl⟩:=ry
 exact add_str (fun t' tk=>⟨.str (i++j),H,I.tok _,⟨_,rfl⟩,q⟩) hz
theorem gX (r:K2 [x] us):∃ u,us=[u]/\K1 x u:=by
 cases r with
 | cons r1 r2=>cases r2;exact ⟨_,rfl,r1⟩
theorem AC (r:K2 [x,y] us):∃ u w',us=[u,w']/\K1 x u/\K1 y w':=by
 cases r with
 | cons r1 r2=>
  cases r2 with
  | cons r3 r4=>cases r4;exact ⟨_,_,rfl,r1,r3⟩
theorem mI (hc:X.calm=true):dN X (.builtin "max") (fun xs H Q=>∃ i j,xs=[.int i,.int j]/\Q (.int (if j > i then j else i)) H):=by
 intro IP s σ H xs us Q I r h
 obtain ⟨i,j,rfl,q⟩:=h
 obtain ⟨u,w',rfl,⟨t,rfl⟩,⟨t',rfl⟩⟩:=AC r
 refine max_two_ints (I.ok.hd hc) fun h' tk k=>⟨_,H,I.kept k,?_,q⟩
 by_cases hj:j > i
 ·rw [if_pos hj,if_pos hj];exact ⟨_,rfl⟩
 ·rw [if_neg hj,if_neg hj];exact ⟨_,rfl⟩
theorem mJ (hc:X.calm=true):dN X (.builtin "min") (fun xs H Q=>∃ i j,xs=[.int i,.int j]/\Q (.int (if j < i then j else i)) H):=by
 intro IP s σ H xs us Q I r h
 obtain ⟨i,j,rfl,q⟩:=h
 obtain ⟨u,w',rfl,⟨t,rfl⟩,⟨t',rfl⟩⟩:=AC r
 refine min_two_ints (I.ok.hd hc) fun h' tk k=>⟨_,H,I.kept k,?_,q⟩
 by_cases hj:j < i
 ·rw [if_pos hj,if_pos hj];exact ⟨_,rfl⟩
 ·rw [if_neg hj,if_neg hj];exact ⟨_,rfl⟩
theorem dX:dN X (.type "int") (fun xs H Q=>(∃ i,xs=[.int i]/\Q (.int i) H)\/∃ k,xs=[.bl k]/\Q (.int (if k then 1 else 0)) H):=by
 intro IP s σ H xs us Q I r h
 rcases h with ⟨i,rfl,q⟩|⟨k,rfl,q⟩
 ·obtain ⟨u,rfl,t,rfl⟩:=gX r
  exact call_int_int ⟨.int i,H,I,⟨_,rfl⟩,q⟩
 ·obtain ⟨u,rfl,r1⟩:=gX r
  cases r1
  exact call_int_bool ⟨.int (if k then 1 else 0),H,I.tok _,⟨_,rfl⟩,q⟩
theorem ce:dN X (.type "str") (fun xs H Q=>∃ i,xs=[.int i]/\i.natAbs.log2 < 1920/\Q (.str (toString i)) H):=by
 intro IP s σ H xs us Q I r h
 obtain ⟨i,rfl,hz,q⟩:=h
 obtain ⟨u,rfl,t,rfl⟩:=gX r
 exact PySem.P.str_of_int hz ⟨.str _,H,I.tok _,⟨_,rfl⟩,q⟩
end
structure MJ (h:Heap) (x dx C:Addr) (mA:Str->Option Value):Prop where
 obj:h.get? x=some (PySem.W.instObj C dx)
 ns:h.Ns1 dx mA
 ne:dx≠x
variable {mA:Str->Option Value} {dx:Addr}
theorem uD (n:h.Ns1 dx mA):∃ od,h.get? dx=some od/\∀ name,PySem.W.lookIn name od=some (mA name):=by
 obtain ⟨o,es,ep,ho,hd,hk,_,hm⟩:=n
 refine ⟨o,ho,fun name=>?_⟩
 have e:=hm name
 unfold nsFind findBy at e
 rw [<-Array.find?_toList] at e
 unfold PySem.W.lookIn
 rw [hd]
 dsimp only
 split
 ·rename_i y q
  rw [q] at e
  exact congrArg some e
 ·rename_i q
  rw [q] at e
  have a:es.toList.any (·.refKey)=false:=by
   rw [List.any_eq_false]
   intro y hy
   obtain ⟨z,t,hkey⟩:=hk y (Array.mem_toList_iff.mp hy)
   simp [DictEntry.refKey,hkey]
  have a':¬ es.toList.any (·.refKey)=true:=by rw [a];exact GU
  rw [if_neg a']
  exact congrArg some e
theorem MJ.look {x dx C:Addr} (I:MJ h x dx C mA):∃ od,PySem.W.InstAt h x (PySem.W.instObj C dx) C (some od)/\∀ name,PySem.W.lookIn name od=some (mA name):=
 let ⟨od,ho,hl⟩:=uD I.ns
 ⟨od,⟨I.obj,rfl,rfl,ho⟩,hl⟩
section
variable {prog:Program} {w:World} {A:Around} {E:Value->Shared->Prop} {s:Shared} {K:ZF} {x dx C f:Addr} {mA:Str->Option Value} {name:Str} {v:Value}
theorem yR {expr:Bool} {Q:Value->Shared->Prop} (X:K.In s.heap) (I:MJ s.heap x dx C mA) (hg:PySem.W.plainGet K C name=true) (hh:PySem.W.hasDictIn K C=true)
  (ha:PySem.W.findIn K (.ref C) name=some none) (hv:mA name=some v) (hv':PySem.W.handedIn v=true) (h:Q v { s with toks:=s.toks+1 }) :
  wpAny (model prog w) A (getAttr (.ref x) name expr) Q E s:=by
 obtain ⟨od,J,hl⟩:=I.look
 exact PySem.W.get_value X J (PySem.W.plainGet_of hg).1 (PySem.W.findObj_own hh ha rfl (by rw [hl,hv])) hv' h
theorem vU {pl:Sem Bool} {Q:Value×List Value->Shared->Prop} (X:K.In s.heap) (I:MJ s.heap x dx C mA) (hg:PySem.W.plainGet K C name=true)
  (hf:PySem.W.findIn K (.ref C) name=some (some (.ref f))) (ht:PySem.W.isFn K (.ref f)=true) (hv:mA name=none) (h:Q (.ref f,[.ref x]) s) :
  wpAny (model prog w) A (getMethod (.ref x) name pl) Q E s:=by
 obtain ⟨od,J,hl⟩:=I.look
 exact PySem.W.method_fn X J (PySem.W.plainGet_of hg).1 (PySem.W.plainGet_of hg).2 hf (beq_iff_eq.mp ht) (by show (PySem.W.lookIn name od).map (·.isSome)=some false;rw [hl,hv];rfl) h
theorem yS {ns:List Str} {Q:Unit->Shared->Prop} (X:K.In s.heap) (I:MJ s.heap x dx C mA)
  (hs:PySem.W.findIn K (.ref C) "__setattr__"=some (some (.builtin "object.__setattr__"))) (hp:PySem.W.plainOver K C=true) (ht:PySem.W.takerIn K C name=some none) (hh:PySem.W.hasDictIn K C=true)
  (hw:PySem.Within mA ns) (hsz:ns.length<=sizeLine)
  (h:∀ h',MJ h' x dx C (fun y=>if y=name then some v else mA y)->Heap.SameBut dx s.heap h'->Q () { s with heap:=h',toks:=s.toks+2 }) :
  wpAny (model prog w) A (setAttr (.ref x) name v) Q E s:=by
 obtain ⟨od,J,hl⟩:=I.look
 refine PySem.W.set_plain X J hs (PySem.W.osa_open (s:={ s with toks:=s.toks+1 }) (r:=none) X J hp ht fun b=>?_)
 obtain ⟨cd,hc,hd'⟩:=PySem.W.any_some hh
 have hx:s.heap.get? x=some ⟨.ref C,some dx,.plain,#[]⟩:=I.obj
 refine wpAny_bind (wpAny_pure (wpAny_bind (wpAny_bind (wpAny_loadPart hx (wpAny_bind (PySem.W.Looks.here (s:={ s with toks:=s.toks+1 }) (PySem.W.looks_clsIn X hc) ?_))))))
 rw [hd']
 refine wpAny_pure (a:=some dx) (wpAny_bind (wpAny_pure (wpAny_bind ?_)))
 refine wpAny_nsSet1 (s:={ s with toks:=s.toks+1 }) I.ns fun h' hn2 hs2=>?_
 obtain ⟨oD,esD,epD,hoD,hdD,hcD⟩:=hn2.count (PySem.Within.cons name v hw)
 refine wpAny_bind (wpAny_lookBehind hoD (by rw [hdD];exact pastItsLine_dict (Hl hcD (by rw [GB];lia))) ?_)
 exact wpAny_pure (h _ ⟨(hs2.2 _ (Ne.symm I.ne)).trans I.obj,hn2,I.ne⟩ hs2)
theorem vV {R:Result->Shared->Prop} {vs:List Value} {kw:List (Str×Value)} (X:K.In s.heap) (hm:PySem.W.makesIn K C=true)
  (hi:PySem.W.findIn K (.ref C) "__init__"=some (some (.ref f))) (hf:PySem.W.typeIn K (.ref f)=some (.type "function"))
  (h:codeAny (model prog w) (A.under (.builtin "type.__call__" ⟨.ref C::vs,kw⟩)) (.call (.ref f) ⟨.ref (s.heap.objs.size+1)::vs,kw⟩) (PySem.W.InitBack (s.heap.objs.size+1) R)
   { s with heap:=(s.heap.push PySem.W.emptyDict).push (PySem.W.instObj C s.heap.objs.size) }) :
  codeAny (model prog w) A (.call (.ref C) ⟨vs,kw⟩) R s:=by
 obtain ⟨hh,g,d,t,os⟩:=s
 exact PySem.W.make_core (PySem.W.makes_of X hm) (PySem.W.looks_findIn X hi) (fun self=>PySem.W.bind_fn X self hf) (.inl rfl) h
end
def aP (f:Str) (v:V):List (Str×V)->List (Str×V)
 | []=>[(f,v)]
 | (g,x)::r=>if g=f then (g,v)::r else (g,x)::aP f v r
theorem jS (f g:Str) (v:V):∀ fs:List (Str×V),(aP f v fs).lookup g=if g=f then some v else fs.lookup g
 | []=>by
  show List.lookup g [(f,v)]=_
  by_cases h:g=f
  ·have hb:(g == f)=true:=beq_iff_eq.mpr h
   simp only [List.lookup,hb,if_pos h]
  ·have hb:(g == f)=false:=beq_eq_false_iff_ne.mpr h
   simp only [List.lookup,hb,if_neg h]
 | (k,x)::r=>by
  have ih:=jS f g v r
  rw [show aP f v ((k,x)::r)=(if k=f then (k,v)::r else (k,x)::aP f v r) from rfl]
  by_cases hk:k=f
  ·rw [if_pos hk]
   by_cases h:g=k
   ·have hb:(g == k)=true:=beq_iff_eq.mpr h
    simp only [List.lookup,hb,if_pos (h.trans hk)]
   ·have hb:(g == k)=false:=beq_eq_false_iff_ne.mpr h
    simp only [List.lookup,hb,if_neg (fun e:g=f=>h (e.trans hk.symm))]
  ·rw [if_neg hk]
   by_cases h:g=k
   ·have hb:(g == k)=true:=beq_iff_eq.mpr h
    simp only [List.lookup,hb,if_neg (fun e:g=f=>hk (h.symm.trans e))]
   ·have hb:(g == k)=false:=beq_eq_false_iff_ne.mpr h
    simp only [List.lookup,hb]
    exact ih
theorem jp (f:Str) (v:V):∀ fs:List (Str×V),f∈(aP f v fs).map (·.1)/\∀ g,g∈fs.map (·.1)->g∈(aP f v fs).map (·.1)
 | []=>⟨by simp [aP],fun g h=>by simp at h⟩
 | (k,x)::r=>by
  obtain ⟨i1,i2⟩:=jp f v r
  rw [show aP f v ((k,x)::r)=(if k=f then (k,v)::r else (k,x)::aP f v r) from rfl]
  by_cases hk:k=f
  ·rw [if_pos hk]
   subst hk
   exact ⟨by simp,fun g h=>by simpa using h⟩
  ·rw [if_neg hk]
   refine ⟨?_,fun g h=>?_⟩
   ·rw [GO]
    exact GD _ i1
   ·rw [GO] at h ⊢
    rcases GF.mp h with e|e
    ·exact GF.mpr (.inl e)
    ·exact GD _ (i2 g e)
theorem jT (f:Str) (v:V):∀ fs:List (Str×V),(aP f v fs).length<=fs.length+1
 | []=>by simp [aP]
 | (k,x)::r=>by
  have ih:=jT f v r
  rw [show aP f v ((k,x)::r)=(if k=f then (k,v)::r else (k,x)::aP f v r) from rfl]
  by_cases hk:k=f
  ·rw [if_pos hk,GB,GB];lia
  ·rw [if_neg hk,GB,GB];lia
variable {v:V}
theorem LB.some_of {o:Option Value} (r:LB (some v) o):∃ u,o=some u/\K1 v u:=by
 cases o with
 | none=>exact (show False from r).elim
 | some u=>exact ⟨u,rfl,r⟩
theorem LB.none_of {o:Option Value} (r:LB none o):o=none:=by
 cases o with
 | none=>rfl
 | some u=>exact (show False from r).elim
theorem uE (r:K1 v u):PySem.W.handedIn u=true:=by
 cases v with
 | non=>cases (show u=Value.none from r);rfl
 | bl b=>cases (show u=Value.bool b from r);rfl
 | int i=>obtain ⟨t,e⟩:=(show ∃ t,u=Value.int i t from r);cases e;rfl
 | str x=>obtain ⟨t,e⟩:=(show ∃ t,u=Value.str x t from r);cases e;rfl
 | byt b=>obtain ⟨t,e⟩:=(show ∃ t,u=Value.bytes b t from r);cases e;rfl
 | flt b=>obtain ⟨t,e⟩:=(show ∃ t,u=Value.float b t from r);cases e;rfl
 | ref a=>cases (show u=Value.ref a from r);rfl
 | ty n=>cases (show u=Value.type n from r);rfl
section
variable {P:Program} {w:World} {H H':Hp} {h h':Heap} {a C dx:Addr} {fs fs':List (Str×V)}
theorem j7 (hok:LC P w H h) (e:H a=some (.ins C dx fs)):∃ mA,MJ h a dx C mA/\(∀ f,LB (fs.lookup f) (mA f))/\PySem.Within mA (fs.map (·.1))/\fs.length<=1000/\H dx=some (.own a):=by
 obtain ⟨d,z,ne,ob,mA,n,r,q⟩:=(show K6 P w H h a (.ins C dx fs) from hok a _ e)
 exact ⟨mA,⟨ob,n,ne⟩,r,q,z,d⟩
end
structure MW (K:ZF) (C:Addr):Prop where
 pg:PySem.W.plainGet K C Str.empty=true
 hd:PySem.W.hasDictIn K C=true
 po:PySem.W.plainOver K C=true
 sa:PySem.W.findIn K (.ref C) "__setattr__"=some (some (.builtin "object.__setattr__"))
variable {C:Addr}
theorem MW.get (c:MW K C) (f:Str):PySem.W.plainGet K C f=true:=c.pg
def Lc (K:ZF) (C:Addr) (f:Str):Prop:=PySem.W.findIn K (.ref C) f=some none
variable {f:Str}
theorem Lc.taker (n:Lc K C f):PySem.W.takerIn K C f=some none:=by
 unfold PySem.W.takerIn
 rw [show PySem.W.findIn K (.ref C) f=some none from n]
 rfl
structure yT (K:ZF) (C:Addr) (m:Str) (f:Addr):Prop where
 at_:PySem.W.findIn K (.ref C) m=some (some (.ref f))
 fn:PySem.W.isFn K (.ref f)=true
 kp:PySem.W.keepIn K (.ref f)=true
section
variable {X:Cx} {IP:List (Addr×Obj)} {σ:St} {H:Hp} {s:Shared} {a C dx:Addr} {fs:List (Str×V)} {f:Str} {v:V} {A:Around} {E:Value->Shared->Prop}
theorem kL {b:Bool} {Q:Value->Shared->Prop} (I:KQ X IP σ H s) (e:H a=some (.ins C dx fs)) (c:MW X.K C) (n:Lc X.K C f) (l:fs.lookup f=some v)
  (h:∀ u s',KQ X IP σ H s'->K1 v u->Q u s'):wpAny (model X.prog X.w) A (getAttr (.ref a) f b) Q E s:=by
 obtain ⟨mA,O,r,_,_,_⟩:=j7 I.hok e
 obtain ⟨u,hu,ru⟩:=LB.some_of (v:=v) (o:=mA f) (by rw [<-l];exact r f)
 exact yR I.kIn O (c.get f) c.hd n hu (uE ru) (h u _ (I.tok _) ru)
theorem kM {m:Str} {g:Addr} {pl:Sem Bool} {Q:Value×List Value->Shared->Prop} (I:KQ X IP σ H s) (e:H a=some (.ins C dx fs)) (c:MW X.K C) (k:yT X.K C m g) (l:fs.lookup m=none)
  (h:Q (.ref g,[.ref a]) s):wpAny (model X.prog X.w) A (getMethod (.ref a) m pl) Q E s:=by
 obtain ⟨mA,O,r,_,_,_⟩:=j7 I.hok e
 have hn:mA m=none:=LB.none_of (by rw [<-l];exact r m)
 exact vU I.kIn O (c.get m) k.at_ k.fn hn h
theorem kN {Q:Unit->Shared->Prop} (I:KQ X IP σ H s) (e:H a=some (.ins C dx fs)) (c:MW X.K C) (n:Lc X.K C f) (hl:fs.length < 1000) (ry:K1 y u)
  (h:∀ s',KQ X IP σ (aI H a (.ins C dx (aP f y fs))) s'->Q () s'):wpAny (model X.prog X.w) A (setAttr (.ref a) f u) Q E s:=by
 obtain ⟨mA,O,r,wi,_,ho⟩:=j7 I.hok e
 have hz:(fs.map (·.1)).length<=sizeLine:=by rw [GC,sizeLine_eq];lia
 refine yS I.kIn O c.sa c.po n.taker c.hd wi hz fun h' O' sb=>h _ ?_
 have hd:∃ o,h'.get? dx=some o:=let ⟨o,_,_,e',_⟩:=O'.ns;⟨o,e'⟩
 refine I.write (x:=a) (e:=dx) (by rw [e];exact True.intro) (.inr ho) (fun b q hb z=>(sb.2 b hb).trans z) hd ?_
 refine ⟨by rw [aw O.ne];exact ho,?_,O.ne,O'.obj,_,O'.ns,fun g=>?_,fun g hg=>?_⟩
 ·have:=jT f y fs;lia
 ·show LB ((aP f y fs).lookup g) (if g=f then some u else mA g)
  rw [jS]
  by_cases q:g=f
  ·rw [if_pos q,if_pos q];exact ry
  ·rw [if_neg q,if_neg q];exact r g
 ·by_cases q:g=f
  ·rw [q];exact (jp f y fs).1
  ·refine (jp f y fs).2 g (wi g fun z=>hg ?_)
   show (if g=f then some u else mA g)=none
   rw [if_neg q];exact z
theorem KQ.made (I:KQ X IP σ H s):KQ X IP σ (aI (aI H s.heap.objs.size (.own (s.heap.objs.size+1))) (s.heap.objs.size+1) (.ins C s.heap.objs.size []))
  { s with heap:=(s.heap.push PySem.W.emptyDict).push (PySem.W.instObj C s.heap.objs.size) }:=by
 have e1:(s.heap.push PySem.W.emptyDict).get? s.heap.objs.size=some PySem.W.emptyDict:=GZ s.heap rfl
 have e2:((s.heap.push PySem.W.emptyDict).push (PySem.W.instObj C s.heap.objs.size)).get? (s.heap.objs.size+1)=some (PySem.W.instObj C s.heap.objs.size):=by
  have:=GZ (s.heap.push PySem.W.emptyDict) (o:=PySem.W.instObj C s.heap.objs.size) rfl
  rwa [IF] at this
 have e3:(s.heap.push PySem.W.emptyDict).Ns s.heap.objs.size (fun _=>none):=⟨PySem.W.emptyDict,#[],_,e1,rfl,(fun e he=>absurd he (by simp)),fun _=>rfl⟩
 have I1:=I.laid (a:=s.heap.objs.size) (o:=.own (s.heap.objs.size+1)) (h':=s.heap.push PySem.W.emptyDict) (t':=s.toks) (fun b u q=>GI _ q) (GE _) ⟨_,e1⟩
 refine I1.laid (a:=s.heap.objs.size+1) (o:=.ins C s.heap.objs.size []) (t':=s.toks) (fun b u q=>GI _ q) (Nat.le_of_eq (IF _ _)) ?_
 have ne:s.heap.objs.size≠s.heap.objs.size+1:=Hq (Ip _)
 refine ⟨by rw [aw ne,ac],Hj _,ne,e2,fun _=>none,(Heap.Ns1.of_empty e3).at fun o q=>GI _ q,fun _=>True.intro,fun y hy=>absurd rfl hy⟩
theorem yU {prog:Program} {w:World} {env:Env} {pos:Pos} {s:Shared} {Q:Value->Shared->Prop} (hb:attributeBase e f env (eval e env)=eval e env)
  (h:wpAny (model prog w) A (eval e env) (fun o s₁=>wpAny (model prog w) A (getAttr o f true) Q E s₁) E s):wpAny (model prog w) A (eval (.Attribute e f pos) env) Q E s:=
 Attribute_any_ h (by rw [arm_eval_Attribute,hb])
end
inductive AD (K:ZF) (f:Str) (Q:VK) (x:V) (H1:Hp):Prop
 | mk (a C dx fs v:_):x=.ref a->H1 a=some (.ins C dx fs)->MW K C->Lc K C f->fs.lookup f=some v->Q v H1->AD K f Q x H1
def Fw (K:ZF) (ta:TE) (f:Str):TE:=fun σ H Q=>ta σ H fun x H1=>AD K f Q x H1
inductive AE (K:ZF) (f:Str) (D:dJ) (σ:St) (y:V) (x:V) (H2:Hp):Prop
 | mk (a C dx fs:_):x=.ref a->H2 a=some (.ins C dx fs)->MW K C->Lc K C f->fs.length < 1000->D.nx σ (aI H2 a (.ins C dx (aP f y fs)))->AE K f D σ y x H2
def Fx (K:ZF) (ta tv:TE) (f:Str):TS:=fun D σ H=>tv σ H fun y H1=>ta σ H1 fun x H2=>AE K f D σ y x H2
def DQ (X:Cx) (op:Operator) (rd:V->V->Hp->VK->Prop):Prop:=
 ∀ (IP:List (Addr×Obj)) (s:Shared) (σ:St) (H:Hp) (x y:V) (u v:Value) (Q:VK),KQ X IP σ H s->K1 x u->K1 y v->rd x y H Q->wpAny (model X.prog X.w) X.A (inplaceOp op u v) (EP X IP σ Q) X.xe s
inductive pK (K:ZF) (tv:TE) (rd:V->V->Hp->VK->Prop) (f:Str) (D:dJ) (σ:St) (x:V) (H1:Hp):Prop
 | mk (a C dx fs v:_):x=.ref a->H1 a=some (.ins C dx fs)->MW K C->Lc K C f->fs.lookup f=some v->(tv σ H1 fun y H2=>rd v y H2 fun z H3=>∃ dx' fs',H3 a=some (.ins C dx' fs')/\fs'.length < 1000/\D.nx σ (aI H3 a (.ins C dx' (aP f z fs'))))->pK K tv rd f D σ x H1
def yV (K:ZF) (ta tv:TE) (rd:V->V->Hp->VK->Prop) (f:Str):TS:=fun D σ H=>ta σ H fun x H1=>pK K tv rd f D σ x H1
section
variable {X:Cx} {o e value:Expr} {f:Str} {pos pos' tpos:Pos} {ta tv:TE}
theorem bH (he:PE X e ta) (hb:attributeBase e f X.env (eval e X.env)=eval e X.env):PE X (.Attribute e f pos) (Fw X.K ta f):=by
 refine ⟨?_⟩
 intro IP s σ H Q I h
 refine yU hb (bM (he IP s σ H _ I h) fun u s1 ⟨x,H1,I1,rx,a,C,dx,fs,v,ex,ea,c,n,l,q⟩=>?_)
 subst ex
 obtain rfl:u=Value.ref a:=rx
 exact kL I1 ea c n l fun u' s2 I2 ru=>⟨v,H1,I2,ru,q⟩
theorem eu (ha:PE X o ta) (hv:PE X value tv) (hs:swapsWith value (some (.Attribute o f pos')) pos.line X.env=pure false):PS X (.Assign [.Attribute o f pos'] value pos) (Fx X.K ta tv f):=by
 refine ⟨?_⟩
 intro IP s σ H D I h
 refine plainObj_wpAny_Assign_Attribute (bM (hv IP s σ H _ I h) fun u s1 ⟨y,H1,I1,ry,q⟩=>bM (ha IP s1 σ H1 _ I1 q) fun ov s2 ⟨x,H2,I2,rx,a,C,dx,fs,ex,ea,c,n,l,q2⟩=>?_) hs
 subst ex
 obtain rfl:ov=Value.ref a:=rx
 exact kN I2 ea c n l ry fun s3 I3=>⟨σ,_,I3,q2⟩
theorem mK {op:Operator} {rd:V->V->Hp->VK->Prop} (ha:PE X o ta) (hv:PE X value tv) (hop:DQ X op rd):PS X (.AugAssign (.Attribute o f tpos) op value pos) (yV X.K ta tv rd f):=by
 refine ⟨?_⟩
 intro IP s σ H D I h
 refine wpAny_AugAssign_AttributeAny (bM (ha IP s σ H _ I h) fun ov s1 ⟨x,H1,I1,rx,a,C,dx,fs,v,ex,ea,c,n,l,q⟩=>?_)
 subst ex
 obtain rfl:ov=Value.ref a:=rx
 refine kL I1 ea c n l fun u s2 I2 ru=>bM (hv IP s2 σ H1 _ I2 q) fun w3 s3 ⟨y,H2,I3,ry,q3⟩=>bM (hop IP s3 σ H2 v y u w3 _ I3 ru ry q3) fun w4 s4 ⟨z,H3,I4,rz,dx',fs',ea',l',q4⟩=>?_
 exact kN I4 ea' c n l' rz fun s5 I5=>⟨σ,_,I5,q4⟩
inductive DR (x:V) (y:V) (H:Hp) (Q:VK):Prop
 | mk (i j:_):x=.int i->y=.int j->Q (.int (i+j)) H->DR x y H Q
theorem vW:DQ X .Add DR:=by
 rintro IP s σ H x y u v Q I rx ry ⟨i,j,rfl,rfl,q⟩
 obtain ⟨t,rfl⟩:=(show ∃ t,u=Value.int i t from rx)
 obtain ⟨t',rfl⟩:=(show ∃ t',v=Value.int j t' from ry)
 exact PyProof.Rows.iadd_int ⟨.int (i+j),H,I.tok _,⟨_,rfl⟩,q⟩
end
section
variable {X:Cx} {IP:List (Addr×Obj)} {σ:St} {H:Hp} {s:Shared} {A:Around} {E:Value->Shared->Prop} {Q:Value->Shared->Prop} {c:Value} {b:Bool}
inductive jq (K:ZF) (H:Hp):V->Value->Prop where
 | non:jq K H .non (.type "NoneType")
 | bl (x:Bool):jq K H (.bl x) (.type "bool")
 | int (i:Int):jq K H (.int i) (.type "int")
 | str (x:Str):jq K H (.str x) (.type "str")
 | flt (x:UInt64):jq K H (.flt x) (.type "float")
 | lst {a:Addr} {xs:List V} (e:H a=some (.lst xs)):jq K H (.ref a) (.type "list")
 | frz {a:Addr} {o:Obj} {xs:List V} (e:H a=some (.frz o (.lst xs))):jq K H (.ref a) (.type "list")
 | tup {a:Addr} {xs:List V} (e:H a=some (.tup xs)):jq K H (.ref a) (.type "tuple")
 | dK {a:Addr} {kvs:List (cE×V)} (e:H a=some (.dK kvs)):jq K H (.ref a) (.type "dict")
 | dT {a:Addr} {kvs:List (List cE×V)} (e:H a=some (.dT kvs)):jq K H (.ref a) (.type "dict")
 | ins {a C dx:Addr} {fs:List (Str×V)} (e:H a=some (.ins C dx fs)) (cl:MW K C) (ha:PySem.W.findIn K (.ref C) "__class__"=some (some (.builtin "object.__class__")))
   (hn:PySem.W.specialIn K (.builtin "object.__class__") "__get__"=some (some (.builtin "getset_descriptor.__get__"))) (htk:PySem.W.takesIn K (.builtin "object.__class__")=some true)
   (hm:PySem.W.mroIn K C (.type "object")=some true):jq K H (.ref a) (.ref C)
theorem uF {u t:Value} (I:KQ X IP σ H s) (rx:K1 x u) (ty:jq X.K H x t) (e:PySem.W.kitOne X.K t c=some b) (h:∀ tk,Q (.bool b) { s with toks:=tk }) :
  wpAny (model X.prog X.w) A (call (.builtin "isinstance") [u,c]) Q E s:=by
 cases ty with
 | non=>cases (show u=Value.none from rx);exact HH PySem.W.kitx_none I.kIn True.intro e (fun z=>nomatch z) h
 | bl y=>cases (show u=Value.bool y from rx);exact HH PySem.W.kitx_bool I.kIn True.intro e (fun z=>nomatch z) h
 | int i=>obtain ⟨t,q⟩:=(show ∃ t,u=Value.int i t from rx);cases q;exact HH PySem.W.kitx_int I.kIn True.intro e (fun z=>nomatch z) h
 | str y=>obtain ⟨t,q⟩:=(show ∃ t,u=Value.str y t from rx);cases q;exact HH PySem.W.kitx_str I.kIn True.intro e (fun z=>nomatch z) h
 | flt y=>obtain ⟨t,q⟩:=(show ∃ t,u=Value.float y t from rx);cases q;exact HH PySem.W.kitx_float I.kIn True.intro e (fun z=>nomatch z) h
 | @lst a xs ea=>
  cases (show u=Value.ref a from rx)
  obtain ⟨_,_,n,_,h1⟩:=(show K6 X.prog X.w H s.heap a (.lst xs) from I.hok a _ ea)
  exact HH PySem.W.kitx_list I.kIn ⟨_,h1,rfl⟩ e (fun z=>nomatch z) h
 | @frz a ob xs ea=>
  cases (show u=Value.ref a from rx)
  obtain ⟨_,_,_,n,_,h1⟩:=(show K6 X.prog X.w H s.heap a (.frz ob (.lst xs)) from I.hok a _ ea)
  exact HH PySem.W.kitx_list I.kIn ⟨_,h1,rfl⟩ e (fun z=>nomatch z) h
 | @tup a xs ea=>
  cases (show u=Value.ref a from rx)
  obtain ⟨_,_,_,p⟩:=(show K6 X.prog X.w H s.heap a (.tup xs) from I.hok a _ ea)
  obtain ⟨o,h1,h2,_⟩:=p
  exact HH PySem.W.kitx_tuple I.kIn ⟨o,h1,(Prod.mk.inj h2).1⟩ e (fun z=>nomatch z) h
 | @dK a kvs ea=>
  cases (show u=Value.ref a from rx)
  obtain ⟨_,_,vs,_,p⟩:=(show K6 X.prog X.w H s.heap a (.dK kvs) from I.hok a _ ea)
  obtain ⟨o,es,ep,h1,h2,_⟩:=p
  exact HH PySem.W.kitx_dict I.kIn ⟨o,h1,h2.1⟩ e (fun z=>nomatch z) h
 | @dT a kvs ea=>
  cases (show u=Value.ref a from rx)
  obtain ⟨_,_,xs,_,o,es,ep,h1,h2,_⟩:=(show K6 X.prog X.w H s.heap a (.dT kvs) from I.hok a _ ea)
  exact HH PySem.W.kitx_dict I.kIn ⟨o,h1,h2.1⟩ e (fun z=>nomatch z) h
 | @ins a C dx fs ea cl ha hn htk hm=>
  cases (show u=Value.ref a from rx)
  obtain ⟨mA,O,_⟩:=j7 I.hok ea
  obtain ⟨od,J,_⟩:=O.look
  exact HH (PySem.W.kitx_own (cl.get _) cl.hd ha hn htk hm) I.kIn J e (fun z=>nomatch z) h
end
structure KY (k:Nat) (A:Around):Prop where
 hd:A.handled=none
 dp:A.depth+3*k+5 < recursionLimit
 un:A.units+16*k+200 < cLine
theorem KY.mono {j k:Nat} (r:KY k A) (h:j<=k):KY j A:=⟨r.hd,by have:=r.dp;lia,by have:=r.un;lia⟩
theorem KY.deeper {k:Nat} (r:KY (k+1) A) (env:Env):KY k (A.deeper env):=
 ⟨r.hd,by have:=r.dp;show A.depth+1+3*k+5 < _;lia,by have:=r.un;show A.units+3+16*k+200 < _;lia⟩
variable {kw:List (Str×Value)}
theorem qT:(A.under (.builtin "type.__call__" ⟨.ref C::us,kw⟩)).depth=A.depth+1:=by
 first|rfl|simp [Around.under,Code.weight,Code.isCreation,Code.isGuard,Code.isCaller,Code.frames,Code.isFrame,guardIds]
theorem qU:(A.under (.builtin "type.__call__" ⟨.ref C::us,kw⟩)).units=A.units+1:=by
 first|rfl|simp [Around.under,Code.cUnits,Code.frames,Code.isFrame]
theorem KY.make {k:Nat} (r:KY (k+1) A) (C:Addr) (us:List Value) (kw:List (Str×Value)):KY k (A.under (.builtin "type.__call__" ⟨.ref C::us,kw⟩)):=
 ⟨r.hd,by have:=r.dp;rw [qT];lia,by have:=r.un;rw [qU];lia⟩
theorem KY.depth {k:Nat} (r:KY k A):A.depth < recursionLimit:=by have:=r.dp;lia
theorem KY.units {k:Nat} (r:KY k A):A.units+64 < cLine:=by have:=r.un;lia
def DS:TA:=fun _ H Q=>Q [] H
def AF (ta:TE) (tr:TA):TA:=fun σ H Q=>ta σ H fun x H1=>tr σ H1 fun xs H2=>Q (x::xs) H2
section
variable {X:Cx} {e:Expr} {es:List Expr} {te:TE} {t:TA} {pos:Pos}
theorem ab:PA X [] DS:=⟨fun _ _ _ _ H Q I h=>Calls.spliced_nil ⟨[],H,I,.nil,h⟩⟩
theorem aa (ha:PE X e te) (hr:PA X es t) (hs:starEach (e::es) X.env=(false,eval e X.env)::starEach es X.env:=by rfl):PA X (e::es) (AF te t):=by
 refine ⟨?_⟩
 intro pos IP s σ H Q I h
 rw [hs]
 show wpAny _ _ (spliced ((false,eval e X.env)::backTo pos (starEach es X.env))) _ _ s
 refine Iv (bM (ha IP s σ H _ I h) fun u s1 ⟨x,H1,I1,r1,q1⟩=>?_)
 exact bM (hr pos IP s1 σ H1 _ I1 q1) fun us s2 ⟨xs,H2,I2,r2,q2⟩=>⟨x::xs,H2,I2,.cons r1 r2,q2⟩
def Fy (t:TA):TE:=fun σ H Q=>t σ H fun xs H1=>xs.length<=sizeLine/\∀ p,H1 p=none->Q (.ref p) (aI H1 p (.tup xs))
def DU (t:TA):TE:=fun σ H Q=>t σ H fun xs H1=>xs.length<=sizeLine/\∀ p,H1 p=none->Q (.ref p) (aI H1 p (.lst xs))
theorem aC {x1} (h:PA X es t):PE X (.Tuple es x1 pos) (Fy t):=by
 refine ⟨?_⟩
 intro IP s σ H Q I hq
 refine wpAny_Tuple_spliced (bM (h pos IP s σ H _ I hq) fun us s1 ⟨xs,H1,I1,r,z,q⟩=>⟨by rw [<-r.length];exact z,?_⟩)
 have hf:H1 s1.heap.objs.size=none:=I1.hok.fresh (GE _)
 refine ⟨.ref s1.heap.objs.size,aI H1 s1.heap.objs.size (.tup xs),I1.laid (t':=s1.toks) (fun b u e=>GI _ e) (GE _) ?_,rfl,q _ hf⟩
 exact ⟨z,us,r,⟨_,GZ _ rfl,rfl,_,rfl⟩⟩
theorem aB (h:PA X es t):PE X (.List es pos) (DU t):=by
 refine ⟨?_⟩
 intro IP s σ H Q I hq
 refine wpAny_List_spliced (bM (h pos IP s σ H _ I hq) fun us s1 ⟨xs,H1,I1,r,z,q⟩=>⟨by rw [<-r.length];exact z,?_⟩)
 have hf:H1 s1.heap.objs.size=none:=I1.hok.fresh (GE _)
 refine ⟨.ref s1.heap.objs.size,aI H1 s1.heap.objs.size (.lst xs),I1.laid (t':=s1.toks) (fun b u e=>GI _ e) (GE _) ?_,rfl,q _ hf⟩
 exact ⟨z,us,0,r,GZ _ rfl⟩
end
abbrev Sp:=List V->Hp->VK->XK->Prop
abbrev qV:=List Env->Hp->Shared->XK->Value->Shared->Prop
structure MB (P:Program) (w:World) (K:ZF) (mg:Str->Option Value) (base:Heap) (A:Around) (outer:List Env) (s:Shared) (H:Hp):Prop where
 frames:A.frames=some outer
 mod:Mod K mg base
 bs:∀ b o,base.get? b=some o->s.heap.get? b=some o/\H b=none
 bsz:base.objs.size<=s.heap.objs.size
 funs:s.heap.FunFrames base outer
 frf:∀ b∈uA outer,H b=none
 hok:LC P w H s.heap
 bare:AllBare s.gens
inductive CE (outer:List Env) (P:Program) (w:World) (H:Hp) (s:Shared) (Q:VK) (u:Value) (s':Shared):Prop
 | mk (v H':_):s'.os=s.os->AllBare s'.gens->Un (uA outer) [] H H' s.heap s'.heap->LC P w H' s'.heap->K1 v u->Q v H'->CE outer P w H s Q u s'
def CR (CX:qV) (outer:List Env) (P:Program) (w:World) (H:Hp) (s:Shared) (Q:VK) (E:XK) (r:Result) (s':Shared):Prop:=
 match r with
 | .ok (.ret u)=>CE outer P w H s Q u s'
 | .ok _=>False
 | .error e=>CX outer H s E e s'
structure KU (P:Program) (w:World) (K:ZF) (mg:Str->Option Value) (base:Heap) (CX:qV) (k:Nat) (f:Addr) (fd:FuncData) (ps:List Str) (sp:Sp):Prop where
 len:∀ vs H Q E,sp vs H Q E->vs.length=ps.length
 run:∀ (A:Around) (outer:List Env) (s:Shared) (H:Hp) (args:Args) (us:List Value) (vs:List V) (Q:VK) (E:XK),KY k A->MB P w K mg base A outer s H->BindsTo s fd args (ps.zip us)->K2 vs us->sp vs H Q E->
  codeAny (model P w) A (.call (.ref f) args) (CR CX outer P w H s Q E) s
variable {sp:Sp} {ps:List Str} {fd:FuncData} {CX:qV} {base:Heap} {mg:Str->Option Value}
theorem KU.mono {j k:Nat} {f:Addr} (F:KU P w K mg base CX j f fd ps sp) (h:j<=k) :
  KU P w K mg base CX k f fd ps sp:=⟨F.len,fun A outer s H args us vs Q E hr=>F.run A outer s H args us vs Q E (hr.mono h)⟩
theorem KU.imp {k:Nat} {f:Addr} {sp sp':Sp} (F:KU P w K mg base CX k f fd ps sp)
  (h:∀ vs H Q E,sp' vs H Q E->sp vs H Q E):KU P w K mg base CX k f fd ps sp':=
 ⟨fun vs H Q E q=>F.len vs H Q E (h _ _ _ _ q),fun A outer s H args us vs Q E hr he hb hv hs=>F.run A outer s H args us vs Q E hr he hb hv (h _ _ _ _ hs)⟩
variable {outer:List Env}
theorem MB.make (e:MB P w K mg base A outer s H) (C:Addr) (us:List Value) (kw:List (Str×Value)) :
  MB P w K mg base (A.under (.builtin "type.__call__" ⟨.ref C::us,kw⟩)) outer s H:=⟨by first|exact e.frames|(simpa [Around.under,Code.envs,Code.isFrame,pushEnvs] using e.frames),e.mod,e.bs,e.bsz,e.funs,e.frf,e.hok,e.bare⟩
section
variable {X:Cx} {IP:List (Addr×Obj)} {σ:St} {H:Hp} {s s':Shared}
theorem KQ.env0 (I:KQ X IP σ H s):MB X.prog X.w X.K X.mg X.base X.A X.stack s H:=
 ⟨I.ok.frames,I.ok.mod,I.bs,Hl I.ok.bsz I.sz,I.stack,I.stkFree,I.hok,I.bare⟩
theorem KQ.after {Q:VK} (I:KQ X IP σ H s) (h:CE X.stack X.prog X.w H s Q u s'):EP X IP σ Q u s':=by
 obtain ⟨v,H',os,bare,un,hok,r,q⟩:=h
 obtain ⟨hh,g,d,t,os'⟩:=s'
 obtain rfl:os'=s.os:=os
 exact ⟨v,H',I.call (h':=hh) (g':=g) (d':=d) (t':=t) (ch:=[]) un hok bare (fun b z=>absurd z (by simp)),r,q⟩
end
def AG (sp:Sp) (dvs:List V) (E:XK) (t:TA):TE:=fun σ H Q=>t σ H fun vs H1=>sp (vs++dvs) H1 Q E
def DV (C:Addr) (sp:Sp) (dvs:List V) (E:XK) (t:TA):TE:=fun σ H Q=>t σ H fun vs H1=>∀ x dx,H1 x=none->H1 dx=none->dx≠x->
 sp (.ref x::(vs++dvs)) (aI (aI H1 dx (.own x)) x (.ins C dx [])) (fun v H2=>v=.non/\Q (.ref x) H2) E
def Ld (K:ZF) (fd:FuncData) (ps:List Str) (ds:List Value):Prop:=
 ∀ (s:Shared) (us:List Value),K.In s.heap->(us++ds).length=ps.length->BindsTo s fd ⟨us,[]⟩ (ps.zip (us++ds))
theorem Ld.all (h:∀ us:List Value,us.length=ps.length->bindArgs fd ⟨us,[]⟩=pure (ps.zip us)):Ld K fd ps []:=fun s us _ hl=>by
 rw [Hw] at hl ⊢
 exact .of_eq (h us hl)
def ia (CX:qV) (X:Cx) (E:XK):Prop:=∀ (IP:List (Addr×Obj)) (σ:St) (H:Hp) (s:Shared) (e:Value) (s':Shared),KQ X IP σ H s->CX X.stack H s E e s'->X.xe e s'
section
variable {X:Cx} {CX:qV} {k:Nat} {f C:Addr} {fd:FuncData} {ps:List Str} {sp:Sp} {dvs:List V} {ds:List Value} {E:XK} {x m:Str} {p pos apos:Pos} {e o:Expr} {es:List Expr} {ta:TE} {t:TA}
theorem nE {IP:List (Addr×Obj)} {σ:St} {H:Hp} {s:Shared} {Q:VK} {us:List Value} {vs:List V} (F:KU X.prog X.w X.K X.mg X.base CX k f fd ps sp) (hr:KY k X.A) (hb:Ld X.K fd ps ds) (hd:K2 dvs ds) (hx:ia CX X E)
  (I:KQ X IP σ H s) (r:K2 vs us) (h:sp (vs++dvs) H Q E):wpAny (model X.prog X.w) X.A (call (.ref f) us) (EP X IP σ Q) X.xe s:=by
 have r2:K2 (vs++dvs) (us++ds):=r.append hd
 have hl:(us++ds).length=ps.length:=by rw [<-r2.length];exact F.len _ _ _ _ h
 refine wpAny_call (codeAny_mono (F.run X.A X.stack s H ⟨us,[]⟩ (us++ds) (vs++dvs) Q E hr I.env0 (hb s us I.kIn hl) r2 h) fun r s' hq=>?_)
 cases r with
 | error e=>exact hx IP σ H s e s' I hq
 | ok fl=>
  cases fl with
  | ret u=>exact I.after hq
  | next=>exact False.elim hq
  | brk=>exact False.elim hq
  | cont=>exact False.elim hq
theorem yW (F:KU X.prog X.w X.K X.mg X.base CX k f fd ps sp) (hr:KY k X.A) (hg:Gl X x) (hm:X.mg x=some (.ref f)) (hk:PySem.W.keepIn X.K (.ref f)=true) (hb:Ld X.K fd ps ds) (hd:K2 dvs ds) (hx:ia CX X E)
  (ha:PA X (e::es) t) (hdb:(x == ("__debug__":Str))=false:=by decide) (he:starEach (e::es) X.env=(false,eval e X.env)::starEach es X.env:=by rfl) (hpl:(backTo pos (starEach es X.env)).any (·.1)=false:=by rfl) :
  PE X (.Call (.Name x p) (e::es) [] pos) (AG sp dvs E t):=by
 refine ⟨?_⟩
 intro IP s σ H Q I h
 refine wpAny_Call_Name_kw (iJ I hg hm ?_ hdb)
 refine Iu (h₀:=X.base) I.ok.mod.kin hk (bM (ha pos IP s σ H _ I h) fun us s1 ⟨vs,H1,I1,r,q⟩=>⟨I1.kIn,?_⟩) he hpl
 exact nE F hr hb hd hx I1 r q
theorem vX (F:KU X.prog X.w X.K X.mg X.base CX k f fd ps sp) (hr:KY k X.A) (hg:Gl X x) (hm:X.mg x=some (.ref f)) (hk:PySem.W.keepIn X.K (.ref f)=true) (hb:Ld X.K fd ps ds) (hd:K2 dvs ds) (hx:ia CX X E)
  (hdb:(x == ("__debug__":Str))=false:=by decide):PE X (.Call (.Name x p) [] [] pos) (AG sp dvs E DS):=by
 refine ⟨?_⟩
 intro IP s σ H Q I h
 refine wpAny_Call_Name_kw (iJ I hg hm ?_ hdb)
 exact PySem.W.callWith_K0 I.kIn hk (nE (us:=[]) F hr hb hd hx I .nil h)
structure Mk (K:ZF) (C f:Addr):Prop where
 makes:PySem.W.makesIn K C=true
 init:PySem.W.findIn K (.ref C) "__init__"=some (some (.ref f))
 fn:PySem.W.isFn K (.ref f)=true
 kp:PySem.W.keepIn K (.ref C)=true
theorem vY {IP:List (Addr×Obj)} {σ:St} {H:Hp} {s:Shared} {Q:VK} {us:List Value} {vs:List V} (M:Mk X.K C f) (F:KU X.prog X.w X.K X.mg X.base CX k f fd ps sp) (hr:KY (k+1) X.A) (hb:Ld X.K fd ps ds) (hd:K2 dvs ds)
  (hx:ia CX X E) (I:KQ X IP σ H s) (r:K2 vs us)
  (h:∀ x dx,H x=none->H dx=none->dx≠x->sp (.ref x::(vs++dvs)) (aI (aI H dx (.own x)) x (.ins C dx [])) (fun v H2=>v=.non/\Q (.ref x) H2) E) :
  wpAny (model X.prog X.w) X.A (call (.ref C) us) (EP X IP σ Q) X.xe s:=by
 have hq:=h (s.heap.objs.size+1) s.heap.objs.size (I.hok.fresh (Nat.le_succ _)) (I.hok.fresh (GE _)) (Hq (Ip _))
 have I2:=KQ.made (C:=C) I
 have r2:K2 (V.ref (s.heap.objs.size+1)::(vs++dvs)) (Value.ref (s.heap.objs.size+1)::(us++ds)):=.cons rfl (r.append hd)
 have hl:(Value.ref (s.heap.objs.size+1)::us++ds).length=ps.length:=by
  have e:=r2.length
  rw [F.len _ _ _ _ hq] at e
  exact e.symm
 refine wpAny_call (vV (f:=f) I.kIn M.makes M.init (beq_iff_eq.mp M.fn) (codeAny_mono (F.run _ X.stack _ _ ⟨Value.ref (s.heap.objs.size+1)::us,[]⟩ (Value.ref (s.heap.objs.size+1)::(us++ds)) _ _ E (hr.make C us [])
  (I2.env0.make C us []) (hb _ (Value.ref (s.heap.objs.size+1)::us) I2.kIn hl) r2 hq) fun r s' hq'=>?_))
 cases r with
 | error e=>exact hx IP σ _ _ e s' I2 hq'
 | ok fl=>
  cases fl with
  | ret u=>
   obtain ⟨v,H',I3,rv,ev,q3⟩:=I2.after hq'
   subst ev
   exact ⟨rv,⟨V.ref (s.heap.objs.size+1),H',I3,rfl,q3⟩⟩
  | next=>exact False.elim hq'
  | brk=>exact False.elim hq'
  | cont=>exact False.elim hq'
theorem sT (M:Mk X.K C f) (F:KU X.prog X.w X.K X.mg X.base CX k f fd ps sp) (hr:KY (k+1) X.A) (hg:Gl X x) (hm:X.mg x=some (.ref C)) (hb:Ld X.K fd ps ds) (hd:K2 dvs ds) (hx:ia CX X E)
  (ha:PA X (e::es) t) (hdb:(x == ("__debug__":Str))=false:=by decide) (he:starEach (e::es) X.env=(false,eval e X.env)::starEach es X.env:=by rfl) (hpl:(backTo pos (starEach es X.env)).any (·.1)=false:=by rfl) :
  PE X (.Call (.Name x p) (e::es) [] pos) (DV C sp dvs E t):=by
 refine ⟨?_⟩
 intro IP s σ H Q I h
 refine wpAny_Call_Name_kw (iJ I hg hm ?_ hdb)
 refine Iu (h₀:=X.base) I.ok.mod.kin M.kp (bM (ha pos IP s σ H _ I h) fun us s1 ⟨vs,H1,I1,r,q⟩=>⟨I1.kIn,?_⟩) he hpl
 exact vY M F hr hb hd hx I1 r q
end
structure ay (N P:List Str) (sc:Scope):Prop where
 kind:sc.kind=.function
 co:sc.isCoroutine=false
 gen:sc.isGenerator=false
 nd:N.Nodup
 pre:N.take P.length=P
 par:∀ x∈P,sc.names.lookup x=some .local\/sc.names.lookup x=some .cell
 nofree:∀ y∈sc.names,y.2≠.free
variable {sc:Scope}
theorem cH {N P:List Str} (h:N.Nodup/\(∀ x∈P,sc.names.lookup x=some .local\/sc.names.lookup x=some .cell)/\∀ y∈sc.names,y.2≠.free) (a:sc.kind=.function:=by rfl) (b:sc.isCoroutine=false:=by rfl) (c:sc.isGenerator=false:=by rfl) (d:N.take P.length=P:=by rfl):ay N P sc:=⟨a,b,c,h.1,d,h.2.1,h.2.2⟩
variable {n:Nat}
theorem aW (h:Nat.ble n 1000=true:=by rfl):n<=sizeLine:=Hl (Nat.le_of_ble_eq_true h) (by decide)
variable {kindOf:Str->Option NameKind}
theorem mL {x:Str}:∀ {binds:List (Str×Value)} {m:Str->Option Value},(∀ v,(x,v)∉binds)->bindL kindOf binds m x=m x
 | [],_,_=>rfl
 | (n,v)::r,m,h=>by
  unfold bindL
  rw [mL fun w hw=>h w (GD _ hw)]
  split
  ·have:x≠n:=by rintro rfl;exact h v Gz
   simp [this]
  ·rfl
theorem mM {x:Str}:∀ {binds:List (Str×Value)} {m:Str->Option Value},(∀ v,(x,v)∉binds)->bindC kindOf binds m x=m x
 | [],_,_=>rfl
 | (n,v)::r,m,h=>by
  unfold bindC
  rw [mM fun w hw=>h w (GD _ hw)]
  split
  ·rfl
  ·have:x≠n:=by rintro rfl;exact h v Gz
   simp [this]
theorem mN {x:Str} {v:Value}:∀ {P:List Str} {vs:List Value} {i:Nat} {m:Str->Option Value},P.Nodup->P[i]?=some x->vs[i]?=some v->kindOf x=some .local->
  bindL kindOf (P.zip vs) m x=some v
 | [],_,_,_,_,h,_,_=>by simp at h
 | _::_,[],_,_,_,_,h,_=>by simp at h
 | p::P,w::vs,0,m,nd,h1,h2,hk=>by
  simp at h1 h2;subst h1;subst h2
  show bindL kindOf ((p,w)::P.zip vs) m p=_
  unfold bindL
  rw [mL fun v hv=>(Iq.mp nd).1 (IJ hv).1,if_pos hk]
  simp
 | p::P,w::vs,i+1,m,nd,h1,h2,hk=>by
  show bindL kindOf ((p,w)::P.zip vs) m x=_
  unfold bindL
  exact mN (i:=i) (Iq.mp nd).2 (by simpa using h1) (by simpa using h2) hk
theorem mO {x:Str} {v:Value}:∀ {P:List Str} {vs:List Value} {i:Nat} {m:Str->Option Value},P.Nodup->P[i]?=some x->vs[i]?=some v->kindOf x≠some .local->
  bindC kindOf (P.zip vs) m x=some v
 | [],_,_,_,_,h,_,_=>by simp at h
 | _::_,[],_,_,_,_,h,_=>by simp at h
 | p::P,w::vs,0,m,nd,h1,h2,hk=>by
  simp at h1 h2;subst h1;subst h2
  show bindC kindOf ((p,w)::P.zip vs) m p=_
  unfold bindC
  rw [mM fun v hv=>(Iq.mp nd).1 (IJ hv).1,if_neg hk]
  simp
 | p::P,w::vs,i+1,m,nd,h1,h2,hk=>by
  show bindC kindOf ((p,w)::P.zip vs) m x=_
  unfold bindC
  exact mO (i:=i) (Iq.mp nd).2 (by simpa using h1) (by simpa using h2) hk
def start (N:List Str) (vs:List V):St:=vs.map some++List.replicate (N.length - vs.length) none
def nF (CX:qV) (P:Program) (w:World) (K:ZF) (mg:Str->Option Value) (base:Heap) (N:List Str) (qual:Str) (scope:Scope) (f:Addr) (cd:Value) (A:Around) (outer:List Env) (s:Shared) (H:Hp) (E:XK):Cx where
 prog:=P
 w:=w
 K:=K
 mg:=mg
 base:=base
 A:=A.deeper (envOfC qual scope s.heap.objs.size f cd)
 N:=N
 s₀:=s
 H₀:=H
 env:=envOfC qual scope s.heap.objs.size f cd
 outer:=outer
 stack:=envOfC qual scope s.heap.objs.size f cd::outer
 ex:=[]
 calm:=true
 fn:=fun _=>true
 pn:=[]
 xe:=fun e s'=>wpAny (model P w) (A.deeper (envOfC qual scope s.heap.objs.size f cd)) (leaving (envOfC qual scope s.heap.objs.size f cd) e) (fun _ s''=>CX outer H s E e s'') (fun e' s''=>CX outer H s E e' s'') s'
theorem pL {x:Str} (h:sc.names.lookup x=some .cell):∃ c,(cellsFrom n sc.names []).lookup x=some c:=by
 have q:=Iz sc.names n [] (.inl h)
 exact Option.isSome_iff_exists.mp q
theorem mP {CX:qV} {P:Program} {w:World} {K:ZF} {mg:Str->Option Value} {base:Heap} {N ps:List Str} {qual:Str} {scope:Scope} {f:Addr} {cd:Value} {A:Around} {outer:List Env} {s s1:Shared} {H:Hp} {E:XK} {us:List Value} {vs:List V}
  (S:ay N ps scope) (hd:A.handled=none) (e0:MB P w K mg base A outer s H) (hl:vs.length=ps.length) (r:K2 vs us)
  (x:InCallC s s.heap.objs.size (bindL (envOfC qual scope s.heap.objs.size f cd).kindOf (ps.zip us) fun _=>none) (cellsFrom (s.heap.objs.size+1) scope.names []) (bindC (envOfC qual scope s.heap.objs.size f cd).kindOf (ps.zip us) fun _=>none) s1) :
  KQ (nF CX P w K mg base N qual scope f cd A outer s H E) [] (start N vs) H s1:=by
 have hpl:ps.length<=N.length:=by have:=congrArg List.length S.pre;rw [GG] at this;lia
 obtain ⟨h1,tk,rfl,hk⟩:=x.done
 have noA:∀ b:Addr,b∉(nF CX P w K mg base N qual scope f cd A outer s H E).ex:=fun b z=>absurd (show b∈([]:List Addr) from z) (by simp)
 refine ⟨⟨e0.mod,S.kind,rfl,rfl,GE _,fun y z c h1 h2=>?_,fun y hy=>?_,fun y c _ h=>?_,fun _=>hd,Around.frames_deeper e0.frames,.inr ⟨rfl,rfl⟩,fun b z=>absurd z (noA b),e0.bs,e0.bsz,fun b _ _=>noA b,fun b z=>absurd z (noA b),e0.funs,e0.frf⟩,
  rfl,e0.bare,Un.kept hk,⟨_,x.toInCall.ns,fun i y v h1 h2 h3=>?_⟩,fun y c h=>⟨_,x.cell y c h⟩,e0.hok.fresh (GE _),fun y c h=>?_,fun p hp=>absurd (show p∈([]:List (Addr×Obj)) from hp) (by simp),e0.hok.kept hk,?_⟩
 ·exact name_of_addr x.apart (HZ h1) (HZ h2)
 ·have hy:scope.names.lookup y=some .cell\/scope.names.lookup y=some .free:=hy
  rcases hy with hy|hy
  ·exact pL hy
  ·exact absurd rfl (S.nofree _ (HZ hy))
 ·exact Nat.le_of_lt (x.above y c (HZ h))
 ·have hi:i < vs.length:=by
   unfold start at h2
   by_cases hi:i < vs.length
   ·exact hi
   ·rw [Ik (by simpa using hi)] at h2
    rw [List.getElem?_replicate] at h2
    split at h2<;>cases h2
  have ha:vs[i]?=some v:=by
   unfold start at h2
   rw [Io (by simpa using hi),GY] at h2
   cases e:vs[i]? with
   | none=>rw [e] at h2;cases h2
   | some a=>rw [e] at h2;cases h2;rfl
  obtain ⟨u,hu,rv⟩:=r.get ha
  have hp:ps[i]?=some y:=by
   rw [<-S.pre,List.getElem?_take_of_lt (by lia)];exact h1
  have ndP:ps.Nodup:=by rw [<-S.pre];exact S.nd.sublist (List.take_sublist _ _)
  refine ⟨u,rv,?_⟩
  rcases S.par y (GM hp) with k|k
  ·exact .inl ⟨k,mN ndP hp hu k⟩
  ·obtain ⟨c,e⟩:=pL (n:=s.heap.objs.size+1) k
   refine .inr ⟨.inl k,c,e,?_⟩
   have q:=x.cell y c e
   rw [mO ndP hp hu (by show scope.names.lookup y≠_;rw [k];decide)] at q
   exact q
 ·exact e0.hok.fresh (Nat.le_of_lt (x.above y c (HZ h)))
 ·unfold start
  show _=N.length
  rw [Gy,GC,Ii]
  lia
theorem DW {CX:qV} {P:Program} {w:World} {K:ZF} {mg:Str->Option Value} {base:Heap} {k:Nat} {f:Addr} {name qual:Str} {params:Arguments} {body:List Stmt} {scope:Scope} {dV kV doc pm Jc ct oc:Value} {an od:Option Addr}
  {osl:Array (Option Value)} {N ps:List Str} {sp:Sp} (lk:K.lookup f=some ⟨oc,od,.func (PySem.W.fnOf name qual params body scope dV kV doc pm an Jc ct),osl⟩) (hcd:PySem.W.codeIn K Jc qual=true) (S:ay N ps scope)
  (len:∀ vs H Q E,sp vs H Q E->vs.length=ps.length)
  (hbody:∀ (A:Around) (outer:List Env) (s:Shared) (H:Hp) (vs:List V) (Q:VK) (E:XK),KY k (A.deeper (envOfC qual scope s.heap.objs.size f Jc))->sp vs H Q E->
   ∃ t,Mo (nF CX P w K mg base N qual scope f Jc A outer s H E) body t/\t { nx:=fun _ H'=>Q .non H',rt:=Q } (start N vs) H) :
  KU P w K mg base CX (k+1) f (PySem.W.fnOf name qual params body scope dV kV doc pm an Jc ct) ps sp:=by
 refine ⟨len,fun A outer s H args us vs Q E hr e0 hb r hsp=>?_⟩
 have hl:=len _ _ _ _ hsp
 have KX:K.In s.heap:=e0.mod.kin.keeps fun b o e=>(e0.bs b o e).1
 have lim:s.heap.NoLimit:=e0.mod.nolimit.keeps fun b o e=>(e0.bs b o e).1
 have hkind:∀ y∈ps.zip us,scope.names.lookup y.1=some .local\/(scope.names.lookup y.1=some .cell/\((cellsFrom (s.heap.objs.size+1) scope.names []).lookup y.1).isSome=true):=fun ⟨n,v⟩ hy=>by
  rcases S.par n (IJ hy).1 with q|q
  ·exact .inl q
  ·exact .inr ⟨q,Iz _ _ _ (.inl q)⟩
 refine codeAny_call_function hr.depth (KX _ _ lk) rfl S.co S.gen rfl (PySem.W.codeRec_of KX hcd) (hb _ _ _ _ ?_)
 refine wpAny_newFunctionEnv_cells S.kind hkind fun env he s1 x=>?_
 subst he
 refine ⟨lim.keeps x.toInCall.keep,codeAny_func ?_⟩
 obtain ⟨t,ht,hq⟩:=hbody A outer s H vs Q E (hr.deeper _) hsp
 have I:KQ (nF CX P w K mg base N qual scope f Jc A outer s H E) [] (start N vs) H s1:=mP S hr.hd e0 hl r x
 refine wpAny_mono (ht [] s1 (start N vs) H _ I hq) (fun fl s' hs=>?_) fun e s' hs=>hs
 have fin:∀ {σ':St} {H':Hp} {v:V} {u:Value},KQ (nF CX P w K mg base N qual scope f Jc A outer s H E) [] σ' H' s'->K1 v u->Q v H'->CE outer P w H s Q u s':=
  fun {σ' H' v u} J rv q=>⟨v,H',J.os,J.bare,J.base,J.hok,rv,q⟩
 cases fl with
 | ret u=>
  obtain ⟨v,σ',H',J,rv,q⟩:=hs
  exact fin J rv q
 | next=>
  obtain ⟨σ',H',J,q⟩:=hs
  exact fin (v:=V.non) (u:=Value.none) J rfl q
 | brk=>
  obtain ⟨_,_,_,q⟩:=hs
  exact False.elim q
 | cont=>
  obtain ⟨_,_,_,q⟩:=hs
  exact False.elim q
section
variable {X:Cx} {x:Str} {p pos:Pos} {e:Expr} {es:List Expr} {t:TA} {id T:String} {r:List V->Hp->VK->Prop}
def Gc (r:List V->Hp->VK->Prop) (t:TA):TE:=fun σ H Q=>t σ H fun vs H1=>r vs H1 Q
theorem aQ (hc:dN X (.builtin id) r) (hg:Gl X x) (hm:X.mg x=none) (hv:bootBuiltins x=some (.builtin id)) (ha:PA X (e::es) t) (hn:x≠"__name__":=by decide) (hdb:(x == ("__debug__":Str))=false:=by decide)
  (he:starEach (e::es) X.env=(false,eval e X.env)::starEach es X.env:=by rfl) (hpl:(backTo pos (starEach es X.env)).any (·.1)=false:=by rfl):PE X (.Call (.Name x p) (e::es) [] pos) (Gc r t):=by
 refine ⟨?_⟩
 intro IP s σ H Q I h
 refine wpAny_Call_Name_kw (jl I hg hm hv ?_ hn hdb)
 exact PyProof.Rows.callWith_builtin1 (bM (ha pos IP s σ H _ I h) fun us s1 ⟨vs,H1,I1,r1,q1⟩=>hc IP s1 σ H1 vs us Q I1 r1 q1) he hpl
theorem aU (hc:dN X (.type T) r) (hg:Gl X x) (hm:X.mg x=none) (hv:bootBuiltins x=some (.type T)) (ha:PA X (e::es) t) (hn:x≠"__name__":=by decide) (hdb:(x == ("__debug__":Str))=false:=by decide)
  (he:starEach (e::es) X.env=(false,eval e X.env)::starEach es X.env:=by rfl) (hpl:(backTo pos (starEach es X.env)).any (·.1)=false:=by rfl):PE X (.Call (.Name x p) (e::es) [] pos) (Gc r t):=by
 refine ⟨?_⟩
 intro IP s σ H Q I h
 refine wpAny_Call_Name_kw (jl I hg hm hv ?_ hn hdb)
 exact HQ (bM (ha pos IP s σ H _ I h) fun us s1 ⟨vs,H1,I1,r1,q1⟩=>hc IP s1 σ H1 vs us Q I1 r1 q1) he hpl
end
end L2
namespace HT
open PySem PyProof.Rows
section
open PySem.SeqAt
open PySem.AutoSeq1 (wpAny_loadPart')
open PySem.MeetsSeq PySem.MeetsSeq2 PySem.MeetsSeq3
end
section
variable {prog:Program} {w:World} {A:Around} {E:Value->Shared->Prop} {s:Shared}
def sIx (n d:Nat):Option Int->Nat
 | none=>d
 | some v=>if v < 0 then (v+(n:Int)).toNat else min v.toNat n
theorem sIx_none (n d:Nat):sIx n d none=d:=rfl
theorem sIx_nat (n d k:Nat):sIx n d (some (k:Int))=min k n:=by
 show (if (k:Int) < 0 then ((k:Int)+(n:Int)).toNat else min (k:Int).toNat n)=min k n
 rw [if_neg (by lia),HL]
end
end HT
namespace L2
open PySem PySem.Spec PyProof.Rows
abbrev TO:=St->Hp->(Option Int->Hp->Prop)->Prop
structure PO (X:Cx) (e:Option Expr) (t:TO):Prop where
 run:∀ (IP:List (Addr×Obj)) (s:Shared) (σ:St) (H:Hp) (Q:Option Int->Hp->Prop),KQ X IP σ H s->t σ H Q->
  wpAny (model X.prog X.w) X.A (evalPart e X.env) (fun u s'=>∃ o H',KQ X IP σ H' s'/\IsPart u o/\Q o H') X.xe s
instance {X:Cx} {e:Option Expr} {t:TO}:CoeFun (PO X e t) fun _=>∀ (IP:List (Addr×Obj)) (s:Shared) (σ:St) (H:Hp) (Q:Option Int->Hp->Prop),KQ X IP σ H s->t σ H Q->
  wpAny (model X.prog X.w) X.A (evalPart e X.env) (fun u s'=>∃ o H',KQ X IP σ H' s'/\IsPart u o/\Q o H') X.xe s:=⟨PO.run⟩
def yX:TO:=fun _ H Q=>Q none H
inductive vZ (Q:Option Int->Hp->Prop) (x:V) (H1:Hp):Prop
 | mk (i:_):x=.int i->Q (some i) H1->vZ Q x H1
def wa (t:TE):TO:=fun σ H Q=>t σ H fun x H1=>vZ Q x H1
section
variable {X:Cx} {e:Expr} {te:TE} {lo hi:Option Expr} {tl th:TO} {pos p2:Pos}
theorem j8:PO X none yX:=by
 refine ⟨?_⟩
 intro IP s σ H Q I h
 rw [evalPart_none]
 exact wpAny_pure ⟨none,H,I,.none,h⟩
theorem da (h:PE X e te):PO X (some e) (wa te):=by
 refine ⟨?_⟩
 intro IP s σ H Q I hw
 rw [evalPart_some]
 refine bM (h IP s σ H _ I hw) fun u s1 ⟨x,H1,I1,r1,q1⟩=>?_
 obtain ⟨i,rfl,q⟩:=q1
 obtain ⟨t,rfl⟩:=r1
 exact ⟨some i,H1,I1,.int i t,q⟩
def Fz (X:Cx) (r:V->Option Int->Option Int->Hp->VK->Prop):Prop:=
 ∀ (IP:List (Addr×Obj)) (s:Shared) (σ:St) (H:Hp) (x:V) (v vl vu:Value) (lo hi:Option Int) (sl:Addr) (Q:VK),KQ X IP σ H s->K1 x v->s.heap.IsSliceOf sl vl vu .none->IsPart vl lo->IsPart vu hi->r x lo hi H Q->
  ∃ T id,typeLookup (.type T) "__getitem__"=pure (some (.builtin id))/\s.TypeIs v T/\wpAny (model X.prog X.w) X.A (getItem v (.ref sl)) (EP X IP σ Q) X.xe s
def Gd (r:V->Option Int->Option Int->Hp->VK->Prop) (te:TE) (tl th:TO):TE:=fun σ H Q=>te σ H fun x H1=>tl σ H1 fun l H2=>th σ H2 fun u H3=>r x l u H3 Q
theorem dE {r:V->Option Int->Option Int->Hp->VK->Prop} (hr:Fz X r) (he:PE X e te) (hl:PO X lo tl) (hu:PO X hi th):PE X (.Subscript e (.Slice lo hi none p2) pos) (Gd r te tl th):=by
 refine ⟨?_⟩
 intro IP s σ H Q I h
 refine Subscript_ (bM (he IP s σ H _ I h) fun v s1 ⟨x,H1,I1,r1,q1⟩=>?_)
 refine wpAny_Slice (bM (hl IP s1 σ H1 _ I1 q1) fun vl s2 ⟨l,H2,I2,pl,q2⟩=>bM (hu IP s2 σ H2 _ I2 q2) fun vu s3 ⟨u,H3,I3,pu,q3⟩=>?_)
 rw [evalPart_none]
 refine wpAny_pure ?_
 have I4:KQ X IP σ H3 { s3 with heap:=s3.heap.push { cls:=.type "slice",data:=.fields #[vl,vu,.none] } }:=I3.kept (t':=s3.toks) fun b ob q=>GI _ q
 obtain ⟨T,id,hT,ht,hg⟩:=hr IP { s3 with heap:=s3.heap.push { cls:=.type "slice",data:=.fields #[vl,vu,.none] } } σ H3 x v vl vu l u s3.heap.objs.size Q I4 r1 (Heap.IsSliceOf.new ..) pl pu q3
 show wpAny (model X.prog X.w) X.A (subscriptTail e (.Slice lo hi none p2) v (.ref s3.heap.objs.size)) (EP X IP σ Q) X.xe { s3 with heap:=s3.heap.push { cls:=.type "slice",data:=.fields #[vl,vu,.none] } }
 exact tail_any (ops:=[.ref s3.heap.objs.size,v]) ht hT hg (by with_unfolding_all rfl)
def iL (xs:List V) (lo hi:Option Int):List V:=(xs.drop (HT.sIx xs.length 0 lo)).take (HT.sIx xs.length xs.length hi - HT.sIx xs.length 0 lo)
theorem pM (xs:List V) (lo hi:Option Int):(iL xs lo hi).length<=xs.length:=by
 unfold iL
 rw [GG,Hy]
 lia
end
def BB (n:Nat) (i:Int):Option Nat:=if 0<=i then (if i < n then some i.toNat else none) else if -(n:Int)<=i then some (i+n).toNat else none
def nG {α:Type} (xs:List α) (i:Int):Option α:=(BB xs.length i).bind fun j=>xs[j]?
variable {j:Nat} {i:Int} {n:Nat}
theorem sU (h:BB n i=some j):seqIndex? i n=some j/\j < n/\-(n:Int)<=i/\i < n:=by
 unfold BB at h
 by_cases h0:0<=i
 ·rw [if_pos h0] at h
  by_cases h1:i < n
  ·rw [if_pos h1] at h
   have e:i.toNat=j:=Hd h
   exact ⟨by rw [seqIndex_of h0 h1,e],by lia,by lia,h1⟩
  ·rw [if_neg h1] at h;cases h
 ·rw [if_neg h0] at h
  by_cases h1:-(n:Int)<=i
  ·rw [if_pos h1] at h
   have e:(i+n).toNat=j:=Hd h
   exact ⟨by rw [seqIndex_neg (by lia) h1,e],by lia,h1,by lia⟩
  ·rw [if_neg h1] at h;cases h
theorem nI {α:Type} {xs:List α} {v:α} (h:nG xs i=some v):∃ j,seqIndex? i xs.length=some j/\xs[j]?=some v/\j < xs.length/\-(xs.length:Int)<=i/\i < xs.length:=by
 unfold nG at h
 cases e:BB xs.length i with
 | none=>rw [e] at h;cases h
 | some j=>
  rw [e] at h
  obtain ⟨h1,h2,h3,h4⟩:=sU e
  exact ⟨j,h1,h,h2,h3,h4⟩
theorem bf {α:Type} {xs:List α} {v:α} (h:xs[j]?=some v):nG xs (j:Int)=some v:=by
 have hj:j < xs.length:=(GA.mp h).1
 have e:BB xs.length (j:Int)=some j:=by
  unfold BB
  rw [if_pos (by lia),if_pos (by lia)];simp
 unfold nG;rw [e];exact h
def yY (b:Expr):Prop:=∀ o i,subscripted b false o i=operate [o,i] (getItem o i)
def DX (X:Cx) (r:R2):Prop:=
 ∀ (value slice:Expr) (IP:List (Addr×Obj)) (s:Shared) (σ:St) (H:Hp) (x y:V) (v u:Value) (Q:VK),KQ X IP σ H s->K1 x v->K1 y u->r x y H Q->
  subscripted slice false v u=operate [v,u] (getItem v u)->wpAny (model X.prog X.w) X.A (subscriptTail value slice v u) (EP X IP σ Q) X.xe s
def Dv (X:Cx) (id:String) (r:V->List V->Hp->VK->Prop):Prop:=
 ∀ (IP:List (Addr×Obj)) (s:Shared) (σ:St) (H:Hp) (x:V) (xs:List V) (v:Value) (us:List Value) (Q:VK),KQ X IP σ H s->K1 x v->K2 xs us->r x xs H Q->
  wpAny (model X.prog X.w) X.A (call (.builtin id) (v::us)) (EP X IP σ Q) X.xe s
section
variable {X:Cx} {a b:Expr} {ta tb:TE} {pos:Pos}
theorem aq {r:R2} (hr:DX X r) (ha:PE X a ta) (hb:PE X b tb) (hs:yY b):PE X (.Subscript a b pos) (DK r ta tb):=by
 refine ⟨?_⟩
 intro IP s σ H Q I h
 exact Subscript_ (Bw ha hb I h fun v u s2 x y H2 I2 rx ry q=>hr a b IP s2 σ H2 x y v u Q I2 rx ry q (hs _ _))
inductive DY (K:ZF) (x:V) (y:V) (H:Hp) (Q:VK):Prop
 | mk (p xs i v:_):x=.ref p->y=.int i->KW K H p xs->nG xs i=some v->Q v H->DY K x y H Q
inductive BC (K:ZF) (x:V) (y:V) (H:Hp) (Q:VK):Prop
 | mk (p xs i v:_):x=.ref p->y=.int i->KP K H p xs->nG xs i=some v->Q v H->BC K x y H Q
inductive DZ (x:V) (y:V) (H:Hp) (Q:VK):Prop
 | mk (z i c:_):x=.str z->y=.int i->z.length<=sizeLine->nG z.cps.toList i=some c->Q (.str ⟨#[c]⟩) H->DZ x y H Q
theorem aL:DX X (DY X.K):=by
 intro value slice IP s σ H x y v u Q I rx ry h hs
 obtain ⟨p,xs,i,z,rfl,rfl,hq,he,q⟩:=h
 cases rx
 obtain ⟨t,rfl⟩:=ry
 obtain ⟨its,r,pl,hz⟩:=I.list hq
 obtain ⟨j,h1,h2,h3,h4,h5⟩:=nI he
 obtain ⟨w,ew,rw'⟩:=r.get h2
 have hl:=r.length
 have hn:=jo
 have fin:EP X IP σ Q w s:=⟨z,H,I,rw',q⟩
 by_cases h0:0<=i
 ·have hj:i.toNat=j:=by
   rw [seqIndex_of h0 h5] at h1
   exact Hd h1
  exact item_listR pl.isList h0 (by lia) (by rw [hj];simpa using ew) fin hs
 ·have hj:(i+(its.toArray.size:Int)).toNat=j:=by
   rw [seqIndex_neg (by lia) h4] at h1
   rw [GW,<-hl]
   exact Hd h1
  exact subscriptTail_builtinR (x:=w) pl.isList.typeIs slot_list_getitem.lookup
   (wpAny_getItem_list_neg (Q:=fun r s'=>r=w/\EP X IP σ Q r s') pl.isList (by lia) (by rw [GW]<;>lia) (by lia) (by rw [hj];simpa using ew) ⟨rfl,fin⟩) hs
theorem ax:DX X (BC X.K):=by
 intro value slice IP s σ H x y v u Q I rx ry h hs
 obtain ⟨p,xs,i,z,rfl,rfl,hq,he,q⟩:=h
 cases rx
 obtain ⟨t,rfl⟩:=ry
 obtain ⟨its,r,pl,hz⟩:=I.tuple hq
 obtain ⟨j,h1,h2,h3,h4,h5⟩:=nI he
 obtain ⟨w,ew,rw'⟩:=r.get h2
 have hl:=r.length
 have hn:=jo
 have fin:EP X IP σ Q w s:=⟨z,H,I,rw',q⟩
 exact subscriptTail_builtinR (x:=w) pl.typeIs slot_tuple_getitem.lookup
  (getItem_tuple (j:=j) (Q:=fun r s'=>r=w/\EP X IP σ Q r s') pl (by lia) (by lia) (by rw [GW,<-hl];exact h1) (by simpa using ew) ⟨rfl,fin⟩) hs
theorem ib:DX X DZ:=by
 intro value slice IP s σ H x y v u Q I rx ry h hs
 obtain ⟨z,i,c,rfl,rfl,hz,he,q⟩:=h
 obtain ⟨t,rfl⟩:=rx
 obtain ⟨t',rfl⟩:=ry
 obtain ⟨j,h1,h2,h3,h4,h5⟩:=nI he
 have hl:z.cps.toList.length=z.length:=by simp [Str.length]
 rw [hl] at h1 h4 h5
 have hn:=jo
 exact tail_any (typeIs_str s z t) slot_str_getitem.lookup (getItem_str (c:=c) (by
  have e1:decide (i < -(2 ^ 63:Int))=false:=decide_eq_false (by lia)
  have e2:decide (i ≥ 2 ^ 63)=false:=decide_eq_false (by lia)
  rw [e1,e2,Bool.or_false]) (by rw [h1];simpa using h2) ⟨.str ⟨#[c]⟩,H,I.tok _,⟨_,rfl⟩,q⟩) hs
theorem qW (its:List Value) (n j:Nat) (u:Value):Obj.mapSeq (·.setIfInBounds j u) { cls:=.type "list",data:=.seq its.toArray n }={ cls:=.type "list",data:=.seq (its.set j u).toArray n }:=by
 simp [Obj.mapSeq]
variable {xs:List V} {p:Addr} {s:Shared} {H:Hp} {σ:St} {IP:List (Addr×Obj)}
theorem KQ.lst (I:KQ X IP σ H s) (h:H p=some (.lst xs)) :
  ∃ (its:List Value) (n:Nat),K2 xs its/\s.heap.get? p=some { cls:=.type "list",data:=.seq its.toArray n }/\xs.length<=sizeLine:=by
 obtain ⟨z,its,n,r,e⟩:=I.hok p _ h
 exact ⟨its,n,r,e,z⟩
theorem KQ.lstUpd {xs ys:List V} {its its':List Value} {n n':Nat} {f:Obj->Obj} (I:KQ X IP σ H s) (h:H p=some (.lst xs))
  (ho:s.heap.get? p=some { cls:=.type "list",data:=.seq its.toArray n }) (hf:f { cls:=.type "list",data:=.seq its.toArray n }={ cls:=.type "list",data:=.seq its'.toArray n' }) (r:K2 ys its') (hz:ys.length<=sizeLine) (t:Nat) :
  KQ X IP σ (aI H p (.lst ys)) { s with heap:=s.heap.update p f,toks:=t }:=by
 have e:(s.heap.update p f).get? p=some { cls:=.type "list",data:=.seq its'.toArray n' }:=by
  rw [Heap.get?_update_self f ho (by rw [hf]<;>rfl),hf]
 refine I.write (x:=p) (e:=p) (by rw [h];trivial) (.inl rfl) (fun b u hb q=>(Heap.get?_update_other _ _ (Ne.symm hb)).trans q) ⟨_,e⟩ ?_
 exact ⟨hz,its',n',r,e⟩
inductive AH (o:V) (i:V) (v:V) (H:Hp) (Q:Hp->Prop):Prop
 | mk (p xs k j:_):o=.ref p->i=.int k->H p=some (.lst xs)->BB xs.length k=some j->Q (aI H p (.lst (xs.set j v)))->AH o i v H Q
theorem pN:DG X AH:=by
 intro IP s σ H o i v ov iv u Q I ro ri rv h
 obtain ⟨p,xs,k,j,rfl,rfl,hp,hj,q⟩:=h
 cases ro
 obtain ⟨t,rfl⟩:=ri
 obtain ⟨its,n,r,ho,hz⟩:=I.lst hp
 obtain ⟨h1,h2,h3,h4⟩:=sU hj
 have hl:=r.length
 have hn:=jo
 have I':KQ X IP σ (aI H p (.lst (xs.set j v))) { s with heap:=s.heap.update p (Obj.mapSeq (·.setIfInBounds j u)) }:=
  I.lstUpd hp ho (qW its n j u) (r.set rv j) (by rw [List.length_set];exact hz) s.toks
 by_cases h0:0<=k
 ·have hk:k.toNat=j:=by
   rw [seqIndex_of h0 h4] at h1
   exact Hd h1
  exact PySem.W.ki_setAt ho h0 (by lia) (by rw [GW,<-hl];exact h4) (by rw [hk];exact ⟨_,I',q⟩)
 ·have hk:(k+(its.toArray.size:Int)).toNat=j:=by
   rw [seqIndex_neg (by lia) h3] at h1
   rw [GW,<-hl]
   exact Hd h1
  exact PySem.W.ki_setBack ho (by lia) (by rw [GW,<-hl];exact h3) (by lia) (by rw [hk];exact ⟨_,I',q⟩)
theorem nJ (lo hi:Option Int) (n:Nat):(sliceBounds lo hi none n).1=((HT.sIx n 0 lo:Nat):Int)/\(sliceBounds lo hi none n).2.1=((HT.sIx n n hi:Nat):Int)/\(sliceBounds lo hi none n).2.2=1:=by
 refine ⟨?_,?_,rfl⟩
 ·cases lo with
  | none=>simp [sliceBounds,HT.sIx]
  | some i=>
   simp only [sliceBounds,HT.sIx,Option.getD_none,show (1:Int) > 0 by decide,if_true]
   by_cases h:i < 0
   ·simp only [h,if_true]<;>lia
   ·simp only [h,if_false]<;>lia
 ·cases hi with
  | none=>simp [sliceBounds,HT.sIx]
  | some i=>
   simp only [sliceBounds,HT.sIx,Option.getD_none,show (1:Int) > 0 by decide,if_true]
   by_cases h:i < 0
   ·simp only [h,if_true]<;>lia
   ·simp only [h,if_false]<;>lia
theorem my (its:List Value) (lo hi:Option Int):slicePick its.toArray lo hi none=((its.drop (HT.sIx its.length 0 lo)).take (HT.sIx its.length its.length hi - HT.sIx its.length 0 lo)).toArray:=by
 obtain ⟨h1,h2,h3⟩:=nJ lo hi its.toArray.size
 unfold slicePick
 rw [h1,h2,h3]
 simp only [sliceRange_one,pick_run,GW]<;>rfl
inductive D0 (K:ZF) (x:V) (lo:Option Int) (hi:Option Int) (H:Hp) (Q:VK):Prop
 | mk (a xs:_):x=.ref a->KW K H a xs->(∀ p,H p=none->Q (.ref p) (aI H p (.lst (iL xs lo hi))))->D0 K x lo hi H Q
theorem j9:Fz X (D0 X.K):=by
 intro IP s σ H x v vl vu lo hi sl Q I rx hs pl pu h
 obtain ⟨a,xs,rfl,hx,q⟩:=h
 cases rx
 obtain ⟨its,r,ht,hz⟩:=I.list hx
 have IQ:=r.length
 refine ⟨"list",_,slot_list_getitem.lookup,ht.isList.typeIs,?_⟩
 refine wpAny_getItem_list_slice ht.isList hs pl pu .none (by simp) ?_ (by rw [GW]<;>lia)
 rw [my,<-IQ]
 refine ⟨.ref s.heap.objs.size,_,I.laid (t':=s.toks) (o:=.lst (iL xs lo hi)) (fun b ob q=>GI _ q) (GE _) ?_,rfl,q _ (I.hok.fresh (GE _))⟩
 exact ⟨Hl (pM xs lo hi) hz,_,0,(r.drop (HT.sIx xs.length 0 lo)).take (HT.sIx xs.length xs.length hi - HT.sIx xs.length 0 lo),GZ _ rfl⟩
def gY:V->Bool
 | .non=>true
 | .bl _=>true
 | .int _=>true
 | .str _=>true
 | _=>false
def uG:V->V->Bool
 | .non,.non=>true
 | .bl a,.bl b=>a == b
 | .bl a,.int b=>(if a then 1 else 0) == b
 | .int a,.bl b=>a == (if b then 1 else 0)
 | .int a,.int b=>a == b
 | .str a,.str b=>a == b
 | _,_=>false
variable {u v:Value} {y x:V} {A:Around}
theorem BE (ry:K1 y u) (rx:K1 x v) (fy:gY y=true) (fx:gY x=true):SeqAt.EqAt A s u v (uG y x):=by
 cases y with
 | non=>
  cases ry
  cases x with
  | non=>cases rx;exact SeqAt.EqAt.same _
  | bl b=>cases rx;exact SeqAt.EqAt.none_bool b
  | int b=>obtain ⟨t,rfl⟩:=rx;exact SeqAt.EqAt.none_int b t
  | str b=>obtain ⟨t,rfl⟩:=rx;exact SeqAt.EqAt.none_str b t
  | _=>exact absurd (show false=true from fx) GU
 | bl a=>
  cases ry
  cases x with
  | non=>cases rx;exact SeqAt.EqAt.bool_none a
  | bl b=>cases rx;exact SeqAt.EqAt.bool_bool a b
  | int b=>obtain ⟨t,rfl⟩:=rx;exact SeqAt.EqAt.bool_int a b t
  | str b=>obtain ⟨t,rfl⟩:=rx;exact SeqAt.EqAt.bool_str a b t
  | _=>exact absurd (show false=true from fx) GU
 | int a=>
  obtain ⟨t',rfl⟩:=ry
  cases x with
  | non=>cases rx;exact SeqAt.EqAt.int_none a t'
  | bl b=>cases rx;exact SeqAt.EqAt.int_bool a t' b
  | int b=>obtain ⟨t,rfl⟩:=rx;exact SeqAt.EqAt.int_int a t' b t
  | str b=>obtain ⟨t,rfl⟩:=rx;exact SeqAt.EqAt.int_str a t' b t
  | _=>exact absurd (show false=true from fx) GU
 | str a=>
  obtain ⟨t',rfl⟩:=ry
  cases x with
  | non=>cases rx;exact SeqAt.EqAt.str_none a t'
  | bl b=>cases rx;exact SeqAt.EqAt.str_bool a t' b
  | int b=>obtain ⟨t,rfl⟩:=rx;exact SeqAt.EqAt.str_int a t' b t
  | str b=>obtain ⟨t,rfl⟩:=rx;exact SeqAt.EqAt.str_str a t' b t
  | _=>exact absurd (show false=true from fx) GU
 | _=>exact absurd (show false=true from fy) GU
def pO (x:V) (u:Value):Bool:=match u with
 | .none=>uG .non x
 | .bool b=>uG (.bl b) x
 | .int i _=>uG (.int i) x
 | .str z _=>uG (.str z) x
 | _=>false
theorem qX (r:K1 y u) (f:gY y=true):pO x u=uG y x:=by
 cases y with
 | non=>cases r;rfl
 | bl b=>cases r;rfl
 | int i=>obtain ⟨t,rfl⟩:=r;rfl
 | str z=>obtain ⟨t,rfl⟩:=r;rfl
 | _=>exact absurd (show false=true from f) GU
theorem iM:∀ {xs:List V} {us:List Value},K2 xs us->xs.all gY=true->us.any (pO x)=xs.any fun y=>uG y x
 | _,_,.nil,_=>rfl
 | y::xs,u::us,.cons r t,f=>by
  rw [List.all_cons,HU] at f
  rw [IH,IH,qX r f.1,iM t f.2]
theorem fc (rx:K1 x v) (fx:gY x=true):∀ {xs:List V} {us:List Value},K2 xs us->xs.all gY=true->∀ u∈us,SeqAt.EqAt A s u v (pO x u)
 | _,_,.nil,_=>fun u hu=>by cases hu
 | y::xs,u::us,.cons r t,f=>fun u' hu=>by
  rw [List.all_cons,HU] at f
  rcases GF.mp hu with rfl|hu
  ·rw [qX r f.1];exact BE r rx f.1 fx
  ·exact fc rx fx t f.2 u' hu
def iH (x:V) (xs:List V):Bool:=xs.any fun y=>uG y x
inductive FA (K:ZF) (neg:Bool) (x:V) (y:V) (H:Hp) (Q:VK):Prop
 | mk (p xs:_):y=.ref p->(KW K H p xs\/KP K H p xs)->gY x=true->xs.all gY=true->Q (.bl (if neg then !iH x xs else iH x xs)) H->FA K neg x y H Q
theorem dh:fR X (compareOp .In) (FA X.K false):=by
 intro IP s σ H x y v u Q I rx ry h
 obtain ⟨p,xs,rfl,hq,fx,fs,q⟩:=h
 cases ry
 rcases hq with hq|hq
 ·obtain ⟨its,r,pl,hz⟩:=I.list hq
  refine SeqAt.in_listAt (pO x) pl.isList (fun w hw=>fc rx fx r fs w (by simpa using hw)) ⟨.bl _,H,I,rfl,?_⟩
  rw [show its.toArray.any (pO x)=its.any (pO x) by simp,iM r fs]
  exact q
 ·obtain ⟨its,r,pl,hz⟩:=I.tuple hq
  refine SeqAt.in_tupleAt (pO x) pl (fun w hw=>fc rx fx r fs w (by simpa using hw)) ⟨.bl _,H,I,rfl,?_⟩
  rw [show its.toArray.any (pO x)=its.any (pO x) by simp,iM r fs]
  exact q
theorem fw:fR X (compareOp .NotIn) (FA X.K true):=by
 intro IP s σ H x y v u Q I rx ry h
 obtain ⟨p,xs,rfl,hq,fx,fs,q⟩:=h
 cases ry
 rcases hq with hq|hq
 ·obtain ⟨its,r,pl,hz⟩:=I.list hq
  refine SeqAt.notIn_listAt (pO x) pl.isList (fun w hw=>fc rx fx r fs w (by simpa using hw)) ⟨.bl _,H,I,rfl,?_⟩
  rw [show its.toArray.any (pO x)=its.any (pO x) by simp,iM r fs]
  exact q
 ·obtain ⟨its,r,pl,hz⟩:=I.tuple hq
  refine SeqAt.notIn_tupleAt (pO x) pl (fun w hw=>fc rx fx r fs w (by simpa using hw)) ⟨.bl _,H,I,rfl,?_⟩
  rw [show its.toArray.any (pO x)=its.any (pO x) by simp,iM r fs]
  exact q
theorem bj:dN X (.builtin "len") (fun xs H Q=>∃ p ys,xs=[.ref p]/\(KW X.K H p ys\/KP X.K H p ys)/\Q (.int ys.length) H):=by
 intro IP s σ H xs us Q I r h
 obtain ⟨p,ys,rfl,hq,q⟩:=h
 obtain ⟨u,rfl,rx⟩:=gX r
 cases rx
 have hn:=jo
 rcases hq with hq|hq
 ·obtain ⟨its,r',pl,hz⟩:=I.list hq
  have IQ:=r'.length
  exact Calls.call_len_list pl.isList (by simp only [GW]<;>lia) ⟨.int ys.length,H,I.tok _,⟨s.toks+1,by rw [GW,IQ]⟩,q⟩
 ·obtain ⟨its,r',pl,hz⟩:=I.tuple hq
  have IQ:=r'.length
  exact len_tuple pl (by simp only [GW]<;>lia) ⟨.int ys.length,H,I.tok _,⟨s.toks+1,by rw [GW,IQ]⟩,q⟩
theorem bN:dN X (.builtin "len") (fun xs H Q=>∃ z,xs=[.str z]/\z.length<=sizeLine/\Q (.int z.length) H):=by
 intro IP s σ H xs us Q I r h
 obtain ⟨z,rfl,hz,q⟩:=h
 obtain ⟨u,rfl,t,rfl⟩:=gX r
 have hn:=jo
 exact len_str (by lia) ⟨.int z.length,H,I.tok _,⟨_,rfl⟩,q⟩
theorem fz:dN X (.type "list") (fun xs H Q=>∃ p ys,xs=[.ref p]/\(KW X.K H p ys\/KP X.K H p ys)/\∀ l,H l=none->Q (.ref l) (aI H l (.lst ys))):=by
 intro IP s σ H xs us Q I r h
 obtain ⟨p,ys,rfl,hq,q⟩:=h
 obtain ⟨u,rfl,rx⟩:=gX r
 cases rx
 have fin:∀ (its:List Value),K2 ys its->ys.length<=sizeLine->∀ (h':Heap) (c':Nat),(∀ b o',s.heap.get? b=some o'->h'.get? b=some o')->
   h'.get? s.heap.objs.size=some { cls:=.type "list",dict:=none,data:=.seq its.toArray c',slots:=#[] }->EP X IP σ Q (.ref s.heap.objs.size) { s with heap:=h' }:=fun its r' hz h' c' kp e=>
  ⟨.ref s.heap.objs.size,_,I.laid (t':=s.toks) kp (GE _) (show K6 X.prog X.w _ h' _ (.lst ys) from ⟨hz,its,c',r',e⟩),rfl,q _ (I.hok.fresh (GE _))⟩
 rcases hq with hq|hq
 ·obtain ⟨its,r',pl,hz⟩:=I.list hq
  have IQ:=r'.length
  obtain ⟨o,ho,hc,n,hd⟩:=pl.isList
  exact call_list_seq p (.inl rfl) ho hc hd (fun h' c' kp e=>fin its r' hz h' c' kp e) (by simp only [GW]<;>lia)
 ·obtain ⟨its,r',pl,hz⟩:=I.tuple hq
  have IQ:=r'.length
  obtain ⟨o,ho,hc,n,hd⟩:=pl
  exact call_list_seq p (.inr rfl) ho hc hd (fun h' c' kp e=>fin its r' hz h' c' kp e) (by simp only [GW]<;>lia)
theorem bX:dN X (.type "tuple") (fun xs H Q=>∃ p ys,xs=[.ref p]/\((KW X.K H p ys/\∀ l,H l=none->Q (.ref l) (aI H l (.tup ys)))\/(KP X.K H p ys/\Q (.ref p) H))):=by
 intro IP s σ H xs us Q I r h
 obtain ⟨p,ys,rfl,h⟩:=h
 obtain ⟨u,rfl,rx⟩:=gX r
 cases rx
 rcases h with ⟨hq,q⟩|⟨hq,q⟩
 ·obtain ⟨its,r',pl,hz⟩:=I.list hq
  have IQ:=r'.length
  refine call_tuple_list pl.isList (fun h' kp=>?_) (by simp only [GW]<;>lia)
  have I1:KQ X IP σ H { s with heap:=h' }:=I.kept (t':=s.toks) kp
  have I2:KQ X IP σ (aI H h'.objs.size (.tup ys)) { s with heap:=h'.push { cls:=.type "tuple",data:=.seq its.toArray } }:=
   I1.laid (t':=s.toks) (fun b o e=>GI _ e) (GE _) (show K6 X.prog X.w _ _ _ (.tup ys) from ⟨hz,its,r',MF.new _ _⟩)
  exact ⟨.ref h'.objs.size,_,I2,rfl,q _ (I1.hok.fresh (GE _))⟩
 ·obtain ⟨its,r',pl,hz⟩:=I.tuple hq
  exact call_tuple_same pl ⟨.ref p,H,I,rfl,q⟩
def Ge (K:ZF) (T:String) (x:V) (H:Hp):Prop:=match x with
 | .str _=>T="str"
 | .int _=>T="int"
 | .ref p=>(T="list"/\∃ xs,KW K H p xs)\/(T="tuple"/\∃ o,K.lookup p=some o/\o.cls=.type "tuple"/\o.dict=none) ∨
   (T="dict"/\((∃ kvs,H p=some (.dK kvs))\/∃ kvs,H p=some (.dT kvs)))\/(T="set"/\∃ S n,H p=some (.set S n))
 | _=>False
theorem qY {T:String} (I:KQ X IP σ H s) (r:K1 x v) (ty:Ge X.K T x H) :
  s.TypeIs v T/\∀ a,v=.ref a->∃ ob,s.heap.get? a=some ob/\ob.dict=none:=by
 cases x with
 | str z=>
  obtain ⟨t,rfl⟩:=r
  cases (show T="str" from ty)
  exact ⟨typeIs_str s z t,fun _ e=>nomatch e⟩
 | int i=>
  obtain ⟨t,rfl⟩:=r
  cases (show T="int" from ty)
  exact ⟨typeIs_int s i t,fun _ e=>nomatch e⟩
 | ref p=>
  cases r
  rcases ty with ⟨rfl,xs,hq⟩|⟨rfl,o,hk,hc,hd⟩|⟨rfl,hk⟩|⟨rfl,S,n,hk⟩
  ·obtain ⟨its,_,pl,_⟩:=I.list hq
   refine ⟨pl.isList.typeIs,fun a e=>?_⟩
   cases e
   obtain ⟨o,n,e,c,hd,_⟩:=pl
   exact ⟨o,e,hd⟩
  ·refine ⟨⟨o,I.kIn p o hk,hc⟩,fun a e=>?_⟩
   cases e
   exact ⟨o,I.kIn _ o hk,hd⟩
  ·have z:∃ o,s.heap.get? p=some o/\o.ExactDict:=by
    rcases hk with ⟨kvs,hk⟩|⟨kvs,hk⟩
    ·obtain ⟨_,_,_,_,o,_,_,e,ex,_⟩:=I.hok p _ hk
     exact ⟨o,e,ex⟩
    ·obtain ⟨_,_,_,_,o,_,_,e,ex,_⟩:=I.hok p _ hk
     exact ⟨o,e,ex⟩
   obtain ⟨o,e,ex⟩:=z
   refine ⟨⟨o,e,ex.1⟩,fun a e2=>?_⟩
   cases e2
   exact ⟨o,e,ex.2.1⟩
  ·obtain ⟨o,_,_,_,e,ex,_⟩:=I.hok p _ hk
   refine ⟨⟨o,e,ex.1⟩,fun a e2=>?_⟩
   cases e2
   exact ⟨o,e,ex.2.1⟩
 | _=>exact False.elim ty
def Gf (K:ZF) (T:String) (r:V->List V->Hp->VK->Prop) (to:TE) (t:TA):TE:=fun σ H Q=>to σ H fun x H1=>Ge K T x H1/\t σ H1 fun xs H2=>r x xs H2 Q
variable {o e:Expr} {es:List Expr} {to:TE} {t:TA} {name:Str} {apos cpos:Pos} {T id:String} {r:V->List V->Hp->VK->Prop}
theorem b9 (pa:PlainAttrs T) (slot:Slot T name id) (hty:typeOf (.builtin id)=pure (.type "method_descriptor")) (hm:Dv X id r) (ho:PE X o to) (ha:PA X (e::es) t)
  (hbase:attributeBase o name X.env (eval o X.env)=eval o X.env:=by rfl)
  (hfew:((backTo cpos (starEach (e::es) X.env)).all (fun x=>!x.1) && (backToKw cpos (keywordEach [] X.env)).all (fun x=>x.1.isSome)
   && decide ((e::es).length+([]:List Keyword).length+(if ([]:List Keyword).isEmpty then 0 else 1) < 30))=true:=by rfl)
  (hline:(apos.endLine == cpos.line)=true:=by rfl) (hs:starEach (e::es) X.env=(false,eval e X.env)::starEach es X.env:=by rfl) (hplain:(backTo cpos (starEach es X.env)).any (·.1)=false:=by rfl) :
  PE X (.Call (.Attribute o name apos) (e::es) [] cpos) (Gf X.K T r to t):=by
 refine ⟨?_⟩
 intro IP s σ H Q I h
 refine wpAny_Call_method_late hbase hfew hline rfl (bM (ho IP s σ H _ I h) fun v s1 ⟨x,H1,I1,r1,ty,q1⟩=>?_)
 obtain ⟨h1,h2⟩:=qY I1 r1 ty
 refine ⟨T,id,pa,slot,hty,h1,h2,?_⟩
 have hA:=ha cpos IP s1 σ H1 _ I1 q1
 rw [hs] at hA ⊢
 refine Ie (by show (false || (backTo cpos (starEach es X.env)).any (·.1))=false;rw [hplain]<;>rfl) (Il ?_)
 exact bM hA fun us s2 ⟨vs,H2,I2,r2,q2⟩=>hm IP s2 σ H2 x vs v us Q I2 r1 r2 q2
end
def Gq (X:Cx) (id:String) (r:V->List V->Hp->VK->Prop):Prop:=
 ∀ (IP:List (Addr×Obj)) (s:Shared) (σ:St) (H:Hp) (x:V) (xs:List V) (v:Value) (us:List Value) (Q:VK),KQ X IP σ H s->K1 x v->K2 xs us->r x xs H Q->
  wpAny (model X.prog X.w) X.A (call (.builtin id) (v::us)) (EP X IP σ Q) X.xe s
theorem K2.one:∀ {x:V} {us:List Value},K2 [x] us->∃ u,us=[u]/\K1 x u
 | _,_,.cons r .nil=>⟨_,rfl,r⟩
section
variable {X:Cx} {IP:List (Addr×Obj)} {σ:St} {H:Hp} {s:Shared} {l b:Addr} {xs ys zs:List V}
theorem KQ.lset {its its':List Value} {n:Nat} {f:Array Value->Array Value} {t':Nat} (I:KQ X IP σ H s) (hH:H l=some (.lst xs))
  (e:s.heap.get? l=some { cls:=.type "list",data:=.seq its.toArray n }) (hf:f its.toArray=its'.toArray) (hv:K2 ys its') (hz:ys.length<=sizeLine) :
  KQ X IP σ (aI H l (.lst ys)) { s with heap:=s.heap.update l (Obj.mapSeq f),toks:=t' }:=by
 have q:=PySem.IsL.update e f
 rw [hf] at q
 refine I.write (x:=l) (e:=l) (by rw [hH];exact trivial) (.inl rfl) (fun b' u hb hu=>(Heap.get?_update_other s.heap (Obj.mapSeq f) (Ne.symm hb)).trans hu) ⟨_,q⟩ ?_
 exact ⟨hz,its',_,hv,q⟩
theorem KQ.lnew {its:List Value} {t':Nat} (I:KQ X IP σ H s) (hv:K2 ys its) (hz:ys.length<=sizeLine) :
  KQ X IP σ (aI H s.heap.objs.size (.lst ys)) { s with heap:=s.heap.push { cls:=.type "list",data:=.seq its.toArray },toks:=t' }:=
 I.laid (fun _ _ q=>GI _ q) (GE _) ⟨hz,its,0,hv,GZ _ rfl⟩
theorem KQ.fresh (I:KQ X IP σ H s):H s.heap.objs.size=none:=I.hok.fresh (GE _)
theorem KQ.lstM (I:KQ X IP σ H s) (hH:H l=some (.lst xs)):xs.length<=sizeLine/\∃ (its:List Value) (n:Nat),K2 xs its/\xs.length=its.length/\s.heap.get? l=some { cls:=.type "list",data:=.seq its.toArray n }:=by
 obtain ⟨z,its,n,r,e⟩:=I.hok l _ hH
 exact ⟨z,its,n,r,r.length,e⟩
theorem wb (h:n<=sizeLine):Builtin.List.listTooLong n=false:=by
 unfold Builtin.List.listTooLong
 exact decide_eq_false (by lia)
end
section
variable {X:Cx}
inductive sV (x:V) (vs:List V) (H:Hp) (Q:VK):Prop
 | mk (l xs y:_):x=.ref l->vs=[y]->H l=some (.lst xs)->xs.length < sizeLine->Q .non (aI H l (.lst (xs++[y])))->sV x vs H Q
theorem bq:Gq X "list.append" sV:=by
 intro IP s σ H x vs v us Q I rx rv h
 obtain ⟨l,xs,y,rfl,rfl,hH,hz,q⟩:=h
 cases rx
 obtain ⟨u,rfl,ru⟩:=rv.one
 obtain ⟨z,its,n,r,hl,e⟩:=I.lstM hH
 refine call_meets F.slot_list_append ⟨_,e,rfl⟩ F.entry_list_append (F.args_list_append_2 _ _) (PySem.list_append l its.toArray n u (by rw [GW];lia)) ⟨e,?_⟩
 refine ⟨.non,_,I.lset (its':=its++[u]) hH e (by simp) (r.append (.cons ru .nil)) ?_,rfl,q⟩
 rw [Gy,List.length_singleton]
 lia
inductive yZ (x:V) (y:V) (H:Hp) (Q:VK):Prop
 | mk (l b xs zs:_):x=.ref l->y=.ref b->H l=some (.lst xs)->H b=some (.lst zs)->xs.length+zs.length<=sizeLine->(∀ p,H p=none->Q (.ref p) (aI H p (.lst (xs++zs))))->yZ x y H Q
theorem aR:fR X (binaryOp .Add) yZ:=by
 intro IP s σ H x y v u Q I rx ry h
 obtain ⟨l,b,xs,zs,rfl,rfl,hH,hB,hz,q⟩:=h
 cases rx
 cases ry
 obtain ⟨z,its,n,r,hl,e⟩:=I.lstM hH
 obtain ⟨z2,its2,n2,r2,hl2,e2⟩:=I.lstM hB
 refine PySem.P.add_list e e2 ?_ (by rw [GW,GW];lia)
 have ea:its.toArray++its2.toArray=(its++its2).toArray:=by simp
 rw [ea]
 exact ⟨.ref _,_,I.lnew (t':=s.toks) (r.append r2) (by rw [Gy];lia),rfl,q _ I.fresh⟩
end
end L2
namespace Att
open PySem PySem.W PySem.Calls PyProof.Rows
variable {h:Heap} {P:Params}
theorem LV:∀ (ns:List Int) (vs:List Value),WellAll P h vs (ns.map WData.int)->IntsAre vs ns:=by
 intro ns
 induction ns with
 | nil=>
  intro vs w
  rw [HM] at w
  cases w
  exact .nil
 | cons n ns ih=>
  intro vs w
  rw [GO] at w
  cases w with
  | cons a b=>
   cases a
   exact .cons _ _ (ih _ b)
variable {n:Nat}
theorem M0 {l:OpenLaw} (hn:l.most=some n) {P:Params} {h:Heap} {args:List WData} {vals:List Value}
  (hpre:l.row.toRowW.claim.pre args=true) (hwl:WellAll P h vals args) :
  ∃ a vs ns,vals=[Value.ref a]/\args=[WData.list (ns.map WData.int)]/\h.get? a=some { cls:=.type "list",data:=.seq vs.toArray }/\IntsAre vs ns/\ns.length<=n:=by
 have hsh:WShape.hasAll [] args [.list .int]=true:=(pre_splitW hpre).1
 have hc:l.pre.holds [] { args:=args }=true:=(pre_splitW hpre).2
 obtain ⟨d,r,rfl,h1,h2⟩:=hasAllW_cons hsh
 obtain rfl:=hasAllW_nil h2
 obtain ⟨xs,rfl,h3⟩:=hasW_list h1
 obtain ⟨ns,rfl⟩:=items_int h3
 have IQ:ns.length<=n:=by
  unfold OpenLaw.pre at hc
  have h4:(WTm.not (.lt (.lit (.int (n:Int))) (.len (.arg 0)))).holds [] { args:=[.list (ns.map .int)] }=true:=by
   have h4:=(holds_andW hc).1
   rw [hn] at h4
   exact h4
  have h5:=condW_of h4 (w_not (w_lt w_lit (w_len_list (w_arg rfl))))
  rw [GC] at h5
  refine Nat.le_of_not_lt fun q=>?_
  have q':(n:Int) < ((ns.length:Nat):Int):=by lia
  first
   | (rw [decide_eq_true q'] at h5;exact absurd h5 (by decide))
   | (simp at h5;lia)
 cases hwl with
 | cons w1 w2=>
  cases w2
  cases w1 with
  | list ho hall=>exact ⟨_,_,ns,rfl,rfl,ho,LV ns _ hall,IQ⟩
theorem MY (l:OpenLaw) (args:List WData):l.row.toRowW.claim.post args (.bool true) args=true:=
 postW_of (r:=l.row.toRowW) (X:=(true == true))
  (show WShape.has [] (.bool true) .bool=true by first|rfl|decide|simp [WShape.has,WShape.arms,WShape.armsAll])
  (show (WTm.eq .res (.lit (.bool true))).value [] { args:=args,res:=some (.bool true),after:=args }=some (.bool (true == true)) from w_eq_bool (w_res rfl) w_lit) rfl
theorem attach_call {l:OpenLaw} {n:Nat} {q:Program} {loose:List Str} {XP:(Str->Option Value)->Heap->Prop} {YP:World->Heap->Prop} {d:DefRec}
  (hn:l.most=some n) (hdf:d.params.defaults=[])
  (call:∀ (w:World) (s₀ s₁:Shared) (mg mb:Str->Option Value) (fa:Addr) (o:Obj) (pm cd doc:Value) (a:Addr) (vs:List Value) (ns:List Int),
   Ground q loose [] XP w s₀ mg mb s₁.heap->YP w s₁.heap->
   s₁.heap.get? fa=some o->o.data=.func (docDef d.name d.params d.body d.scope pm cd doc)->s₁.heap.CodeRec cd d.name->mg d.name=some (.ref fa)->
   s₁.heap.get? a=some { cls:=.type "list",data:=.seq vs.toArray }->IntsAre vs ns->ns.length<=n->s₁.gens=#[]->
   codeAny (model l.prog w) callerA (.call (.ref fa) ⟨[.ref a],[]⟩) (fun r s'=>r=.ok (.ret (.bool true))/\OldK s₁.heap s'.heap/\s'.os=s₁.os/\AllBare s'.gens) s₁) :
  WalkO q loose XP YP l.row.toRowW d [] (fun f vs=>PySem.call f vs):=by
 intro w s₀ s₁ mg mb G Y fa o pm cd doc dV kV ho hd hcd hD hmg hg args vals as hpre hlay hrd hwl hlo
 obtain rfl:dV=.none:=Dflts.none hD hdf
 obtain rfl:kV=.none:=Dflts.noKw hD
 obtain ⟨a,vs,ns,rfl,rfl,hobj,hints,IQ⟩:=M0 hn hpre hwl
 refine enter_call (codeAny_mono (call w s₀ s₁ mg mb fa o pm cd doc a vs ns G Y ho (fd_plain hd) hcd hmg hobj hints IQ hg) fun r s' hq=>?_)
 obtain ⟨rfl,h2,h3,h4⟩:=hq
 exact ⟨.inl ⟨.bool true,.bool true,[],rfl,fun _=>rfl,.bool true,MY l _,fun _=>⟨List.Pairwise.nil,fun _ hm=>(nomatch hm)⟩⟩,h2,h3,h4⟩
section
variable {prog:Program} {w:World} {A:Around} {E:Value->Shared->Prop} {s:Shared} {K:Frag}
end
end Att
namespace L2
open PySem PySem.Spec PyProof.Rows
theorem mQ:∀ {vs:List Value} {ns:List Int},IntsAre vs ns->K2 (ns.map V.int) vs
 | _,_,.nil=>.nil
 | _,_,.cons n t h=>.cons ⟨t,rfl⟩ (mQ h)
def y0 (H:Hp):Prop:=∀ b,H b=none\/∃ o xs,H b=some (.frz o (.lst xs))
theorem wc {P:Program} {w:World} {K:ZF} {mg mb:Str->Option Value} {CX:qV} {k:Nat} {fa a:Addr} {fd:FuncData} {x:Str} {sp:Sp} {s₁:Shared} {vs:List Value} {ns:List Int}
  (KX:K.In s₁.heap) (hns:s₁.heap.Ns mainGlobals mg) (hb:s₁.heap.Ns builtinsNs mb) (hbb:∀ x:Str,x≠"__name__"->mb x=bootBuiltins x) (hlim:s₁.heap.NoLimit) (hg:s₁.gens=#[])
  (ha:s₁.heap.get? a=some { cls:=.type "list",data:=.seq vs.toArray }) (hi:IntsAre vs ns) (hl:ns.length<=sizeLine) (hr:KY k callerA)
  (F:∀ base:Heap,K.In base->base.Ns mainGlobals mg->KU P w K mg base CX k fa fd [x] sp) (hbind:∀ (s:Shared) (u:Value),BindsTo s fd ⟨[u],[]⟩ [(x,u)])
  (hsp:∀ H:Hp,y0 H->KW K H a (ns.map V.int)->sp [.ref a] H (fun v _=>v=.bl true) fun _ _ _=>False)
  (hCX:∀ H e s',CX [] H s₁ (fun _ _ _=>False) e s'->False) :
  codeAny (model P w) callerA (.call (.ref fa) ⟨[.ref a],[]⟩) (fun r s'=>r=.ok (.ret (.bool true))/\OldK s₁.heap s'.heap/\s'.os=s₁.os/\AllBare s'.gens) s₁:=by
 have rv:=mQ hi
 have lenV:=hi.length
 have core:∀ H:Hp,y0 H->KW K H a (ns.map V.int)->LC P w H s₁.heap->(∀ b,H b≠none->b=a)->(H a≠none->K.lookup a=none)->
   codeAny (model P w) callerA (.call (.ref fa) ⟨[.ref a],[]⟩) (fun r s'=>r=.ok (.ret (.bool true))/\OldK s₁.heap s'.heap/\s'.os=s₁.os/\AllBare s'.gens) s₁:=by
  intro H hO hS hok hA hK
  have base_of:∀ {b:Addr} {o:Obj},s₁.heap.get? b=some o->H b=none->(nC s₁.heap H).get? b=some o:=fun e n=>vI e n
  have noA:∀ {b:Addr} {o:Obj} {es:Array DictEntry} {ep:Nat},s₁.heap.get? b=some o->o.data=.dict es ep->H b=none:=fun {b o es ep} e d=>by
   cases q:H b with
   | none=>rfl
   | some u=>
    have e':b=a:=hA b (by rw [q];simp)
    subst e'
    rw [ha] at e;cases e
    have d':Data.seq vs.toArray _=Data.dict es ep:=d
    cases d'
  have nsK:∀ {b:Addr} {m:Str->Option Value},s₁.heap.Ns b m->(nC s₁.heap H).Ns b m:=fun {b m} ⟨o,es,ep,e,d,r⟩=>⟨o,es,ep,base_of e (noA e d),d,r⟩
  have hKb:K.In (nC s₁.heap H):=fun b o e=>base_of (KX b o e) (by
   cases q:H b with
   | none=>rfl
   | some u=>
    have e':b=a:=hA b (by rw [q];simp)
    subst e'
    rw [hK (by rw [q];simp)] at e;cases e)
  have hM:Mod K mg (nC s₁.heap H):=⟨hKb,nsK hns,⟨mb,nsK hb,hbb⟩,let ⟨mc,h1,h2⟩:=hlim;⟨mc,nsK h1,h2⟩⟩
  have e0:MB P w K mg (nC s₁.heap H) callerA [] s₁ H:=⟨rfl,hM,fun b o e=>yL e,Nat.le_of_eq (uz _ _),trivial,fun b hb=>absurd (show b∈([]:List Addr) from hb) (by simp),hok,.of_eq hg⟩
  refine codeAny_mono ((F _ hKb (nsK hns)).run callerA [] s₁ H ⟨[.ref a],[]⟩ [.ref a] [.ref a] _ _ hr e0 (hbind s₁ (.ref a)) (.cons rfl .nil) (hsp H hO hS)) fun r s' h=>?_
  cases r with
  | error e=>exact (hCX H e s' h).elim
  | ok fl=>
   cases fl with
   | next=>exact False.elim h
   | brk=>exact False.elim h
   | cont=>exact False.elim h
   | ret u=>
    obtain ⟨v,H',os,bare,un,hok',r',q⟩:=h
    have q':v=.bl true:=q
    subst q'
    obtain rfl:u=Value.bool true:=r'
    refine ⟨rfl,OldK.of_keep fun b o e=>?_,os,bare⟩
    cases q:H b with
    | none=>exact un.keep b o e q (by intro z;exact absurd (show b∈([]:List Addr) from z) (by simp)) (by simp)
    | some u=>
     rcases hO b with z|⟨ob,xs,z⟩
     ·rw [q] at z;cases z
     ·have z2:=un.frzs b ob _ z
      obtain ⟨e1,_⟩:=hok b _ z
      obtain ⟨e2,_⟩:=hok' b _ z2
      rw [e] at e1;cases e1
      exact e2
 cases hk:K.lookup a with
 | some o=>
  have e:=KX a o hk
  rw [ha] at e
  cases e
  refine core (fun _=>none) (fun _=>.inl rfl) (.inr ⟨_,vs.toArray,_,hk,rfl,rfl,rfl,by rw [GW,lenV];exact hl,by simpa using rv⟩) (fun b u z=>by have z':(none:Option HO)=some u:=z;cases z') (fun b z=>absurd rfl z) fun z=>absurd rfl z
 | none=>
  refine core (fun b=>if b=a then some (.frz { cls:=.type "list",data:=.seq vs.toArray } (.lst (ns.map V.int))) else none) (fun b=>?_) (.inl (.inr ⟨{ cls:=.type "list",data:=.seq vs.toArray },if_pos rfl⟩)) (fun b u z=>?_) (fun b z=>?_) fun _=>hk
  ·by_cases hb:b=a
   ·exact .inr ⟨_,_,if_pos hb⟩
   ·exact .inl (if_neg hb)
  ·by_cases hb:b=a
   ·have z':=(if_pos hb).symm.trans z
    cases z'
    subst hb
    exact ⟨ha,by rw [GC];exact hl,vs,_,rv,ha⟩
   ·have z':=(if_neg hb).symm.trans z
    cases z'
  ·by_cases hb:b=a
   ·exact hb
   ·exact absurd (if_neg hb) z
theorem y2 {l:PySem.W.OpenLaw} {n k:Nat} {q:Program} {loose:List Str} {XP:(Str->Option Value)->Heap->Prop} {YP:World->Heap->Prop} {d:DefRec} {K:Params->ZF} {CX:World->qV} {sp:World->Sp} {x:Str}
  (hn:l.most=some n) (hn2:n<=sizeLine) (hdf:d.params.defaults=[]) (hr:KY k callerA)
  (hY:∀ (w:World) (h:Heap),YP w h->(K w.params).In h)
  (F:∀ (w:World) (mg:Str->Option Value) (fa:Addr) (h:Heap),(K w.params).In h->h.Ns mainGlobals mg->mg d.name=some (.ref fa)->
   ∃ fd:FuncData,(∀ (s:Shared) (u:Value),BindsTo s fd ⟨[u],[]⟩ [(x,u)]) /\
    ∀ base:Heap,(K w.params).In base->base.Ns mainGlobals mg->KU l.prog w (K w.params) mg base (CX w) k fa fd [x] (sp w))
  (hsp:∀ (w:World) (H:Hp) (a:Addr) (ns:List Int),ns.length<=n->y0 H->KW (K w.params) H a (ns.map V.int)->sp w [.ref a] H (fun v _=>v=.bl true) fun _ _ _=>False)
  (hCX:∀ (w:World) (H:Hp) (s:Shared) (e:Value) (s':Shared),CX w [] H s (fun _ _ _=>False) e s'->False) :
  PySem.W.WalkO q loose XP YP l.row.toRowW d [] (fun f vs=>PySem.call f vs):=by
 refine Att.attach_call hn hdf fun w s₀ s₁ mg mb fa o pm cd doc a vs ns G Y ho hd hcd hmg hobj hints IQ hg=>?_
 have KX:=hY w _ Y
 obtain ⟨fd,hb,hF⟩:=F w mg fa _ KX G.T.g hmg
 exact wc KX G.T.g G.T.b G.T.builtins G.T.nolimit hg hobj hints (Hl IQ hn2) hr hF hb (fun H hO hS=>hsp w H a ns IQ hO hS) fun H e s'=>hCX w H s₁ e s'
theorem we {l:PySem.W.OpenLaw} {n k:Nat} {q:Program} {loose:List Str} {XP:(Str->Option Value)->Heap->Prop} {YP:World->Heap->Prop} {d:DefRec} {K:Params->ZF} {CX:qV} {sp:ZF->Sp} {x:Str}
  (hn:l.most=some n) (hn2:n<=sizeLine) (hdf:d.params.defaults=[]) (hr:KY k callerA)
  (hY:∀ (w:World) (h:Heap),YP w h->(K w.params).In h)
  (F:∀ (w:World) (mg:Str->Option Value) (fa:Addr) (h:Heap),(K w.params).In h->h.Ns mainGlobals mg->mg d.name=some (.ref fa)->
   ∃ fd:FuncData,(∀ (s:Shared) (u:Value),BindsTo s fd ⟨[u],[]⟩ [(x,u)]) /\
    ∀ base:Heap,(K w.params).In base->base.Ns mainGlobals mg->KU l.prog w (K w.params) mg base CX k fa fd [x] (sp (K w.params)))
  (hsp:∀ (K:ZF) (H:Hp) (a:Addr) (ns:List Int),ns.length<=n->y0 H->KW K H a (ns.map V.int)->sp K [.ref a] H (fun v _=>v=.bl true) fun _ _ _=>False)
  (hCX:∀ (H:Hp) (s:Shared) (e:Value) (s':Shared),CX [] H s (fun _ _ _=>False) e s'->False) :
  PySem.W.WalkO q loose XP YP l.row.toRowW d [] (fun f vs=>PySem.call f vs):=
 y2 (K:=K) (CX:=fun _=>CX) (sp:=fun w=>sp (K w.params)) hn hn2 hdf hr hY F (fun w H a ns h1 h2 h3=>hsp (K w.params) H a ns h1 h2 h3) fun _ H s e s'=>hCX H s e s'
end L2
namespace L2
open PySem PySem.Spec PyProof.Rows
def db (s:Stmt) (j:Nat):Stmt:=match s with
 | .ClassDef _ _ _ body _ _ _ _ _ _ _=>body.getD j (.Pass ⟨0,0,0,0⟩)
 | _=>.Pass ⟨0,0,0,0⟩
def dm (s:Stmt):Arguments:=match s with
 | .FunctionDef _ a _ _ _ _ _ _ _ _=>a
 | _=>{ posonlyargs:=[],args:=[],vararg:=none,kwonlyargs:=[],kw_defaults:=[],kwarg:=none,defaults:=[] }
def cU (s:Stmt):List Stmt:=match s with
 | .FunctionDef _ _ b _ _ _ _ _ _ _=>b
 | _=>[]
def aj (s:Stmt):Scope:=match s with
 | .FunctionDef _ _ _ _ _ _ sc _ _ _=>sc
 | _=>{ kind:=.function,names:=[],isGenerator:=false,isCoroutine:=false }
abbrev bY:qV:=fun _ _ _ _ _ _=>False
abbrev E0:XK:=fun _ _ _=>False
variable {X:Cx}
theorem kO:ia bY X E0:=fun _ _ _ _ _ _ _ h=>h.elim
structure K7 (K:ZF) (x qual:Str) (st:Stmt) (f:Addr) (fd:FuncData):Prop where
 ex:∃ (oc:Value) (od:Option Addr) (kV doc pm:Value) (an:Option Addr) (Jc ct:Value) (osl:Array (Option Value)),
  fd=PySem.W.fnOf x qual (dm st) (cU st) (aj st) .none kV doc pm an Jc ct/\K.lookup f=some ⟨oc,od,.func fd,osl⟩/\PySem.W.codeIn K Jc qual=true
 kp:PySem.W.keepIn K (.ref f)=true
section
variable {P:Program} {w:World} {K:ZF} {mg:Str->Option Value} {base:Heap}
variable {fd:FuncData} {f:Addr} {st:Stmt} {x qual:Str}
theorem K7.ok {N ps:List Str} {k:Nat} {sp:Sp} (F:K7 K x qual st f fd) (S:ay N ps (aj st)) (len:∀ vs H Q E,sp vs H Q E->vs.length=ps.length)
  (hbody:∀ (Jc:Value) (A:Around) (outer:List Env) (s:Shared) (H:Hp) (vs:List V) (Q:VK) (E:XK),KY k (A.deeper (envOfC qual (aj st) s.heap.objs.size f Jc))->sp vs H Q E->
   ∃ t,Mo (nF bY P w K mg base N qual (aj st) f Jc A outer s H E).nox (cU st) t/\t { nx:=fun _ H'=>Q .non H',rt:=Q } (start N vs) H):KU P w K mg base bY (k+1) f fd ps sp:=by
 obtain ⟨oc,od,kV,doc,pm,an,Jc,ct,osl,rfl,lk,hcd⟩:=F.ex
 refine DW lk hcd S len fun A outer s H vs Q E hr hsp=>?_
 obtain ⟨t,h,q⟩:=hbody Jc A outer s H vs Q E hr hsp
 exact ⟨t,h.nox,q⟩
theorem K7.binds {ps:List Str} (F:K7 K x qual st f fd)
  (h:∀ (kV doc pm:Value) (an:Option Addr) (Jc ct:Value) (us:List Value),us.length=ps.length->bindArgs (PySem.W.fnOf x qual (dm st) (cU st) (aj st) .none kV doc pm an Jc ct) ⟨us,[]⟩=pure (ps.zip us)):Ld K fd ps []:=by
 obtain ⟨oc,od,kV,doc,pm,an,Jc,ct,osl,rfl,lk,hcd⟩:=F.ex
 exact .all (h kV doc pm an Jc ct)
theorem wf {oc:Value} {od an:Option Addr} {osl:Array (Option Value)} {kV doc pm Jc ct:Value} (l:K.lookup f=some ⟨oc,od,.func (PySem.W.fnOf x qual (dm st) (cU st) (aj st) .none kV doc pm an Jc ct),osl⟩)
  (c:PySem.W.codeIn K Jc qual=true) (k:PySem.W.keepIn K (.ref f)=true):K7 K x qual st f (PySem.W.fnOf x qual (dm st) (cU st) (aj st) .none kV doc pm an Jc ct):=⟨⟨oc,od,kV,doc,pm,an,Jc,ct,osl,rfl,l,c⟩,k⟩
end
theorem dP {A:Around} {k:Nat} (hr:KY k A):A.units+1 < cLine:=Nat.lt_of_le_of_lt (Nat.add_le_add_left (by decide:1<=64) _) hr.units
section
variable {X:Cx}
theorem pv (i:Nat) {x:Str} {pos:Pos} (hN:X.N[i]?=some x:=by rfl) (hv:Dy X.env.scope x:=by first|exact Or.inl rfl|exact Or.inr (Or.inl rfl)|exact Or.inr (Or.inr rfl)) (hd:(x == ("__debug__":Str))=false:=by decide)
  (hcd:(x == ("__classdict__":Str))=false:=by decide):PE X (.Name x pos) (uB i):=Bq hN hv hd hcd
end
variable {A B:Prop}
theorem ck (h:B):if false=true then A else B:=by
 rw [if_neg GU]
 exact h
theorem pP (h:A):if true=true then A else B:=by
 rw [if_pos rfl]
 exact h
variable {c:Prop}
theorem bU [Decidable c] (h1:c->A) (h2:¬ c->B):if c then A else B:=by
 by_cases h:c
 ·rw [if_pos h]
  exact h1 h
 ·rw [if_neg h]
  exact h2 h
theorem D1 [Decidable c] (hc:c) (h:B):if (!decide c)=true then A else B:=by
 rw [decide_eq_true hc]
 exact ck h
def KO (H H':Hp):Prop:=∀ b o,H b=some o->H' b=some o
theorem KO.refl (H:Hp):KO H H:=fun _ _ h=>h
variable {H H1 H2:Hp}
theorem KO.trans (a:KO H H1) (b:KO H1 H2):KO H H2:=fun c o h=>b c o (a c o h)
theorem KO.free {H H':Hp} (e:KO H H') {l:Addr} (h:H' l=Option.none):H l=Option.none:=by
 cases q:H l with
 | none=>rfl
 | some o=>
  rw [e l o q] at h
  cases h
theorem KO.seq {K:ZF} {H H':Hp} {a:Addr} {xs:List V} (e:KO H H') (h:KW K H a xs):KW K H' a xs:=by
 rcases h with (h|⟨o,h⟩)|h
 ·exact .inl (.inl (e _ _ h))
 ·exact .inl (.inr ⟨o,e _ _ h⟩)
 ·exact .inr h
theorem ic (env:Env):∀ (names:List (Str×NameKind)) (cs:List (Str×Addr)),(∀ x∈names,x.2=.free->∃ c,env.cells.lookup x.1=some c)->(∀ x c,cs.lookup x=some c->env.cells.lookup x=some c)->
  ∃ cl,(forIn names cs fun (p:Str×NameKind) (r:List (Str×Addr))=>(if (p.2 == NameKind.free)=true then do let c <-cellOf env p.1;pure (ForInStep.yield ((p.1,c)::r)) else pure (ForInStep.yield r):Sem (ForInStep (List (Str×Addr)))))=(pure cl:Sem (List (Str×Addr))) /\
   (∀ x c,cl.lookup x=some c->env.cells.lookup x=some c)/\(∀ x,(∃ c,cs.lookup x=some c)->∃ c,cl.lookup x=some c)/\∀ x∈names,x.2=.free->∃ c,cl.lookup x.1=some c
 | [],cs,_,h=>⟨cs,rfl,h,fun _ z=>z,fun _ z=>nomatch z⟩
 | (n,k)::r,cs,hn,h=>by
  by_cases e:k=.free
  ·subst e
   obtain ⟨c,hc⟩:=hn (n,.free) Gz rfl
   have h':∀ x c',((n,c)::cs).lookup x=some c'->env.cells.lookup x=some c':=fun x c' q=>by
    rw [HK] at q
    cases ex:x == n with
    | true=>
     rw [ex] at q
     have:x=n:=by simpa using ex
     subst this
     cases q
     exact hc
    | false=>rw [ex] at q;exact h x c' q
   obtain ⟨cl,e1,e2,e3,e4⟩:=ic env r ((n,c)::cs) (fun x hx=>hn x (GD _ hx)) h'
   refine ⟨cl,?_,e2,fun x ⟨c',q⟩=>e3 x ?_,fun x hx hf=>?_⟩
   ·rw [List.forIn_cons]
    rw [if_pos (show (((n,NameKind.free):Str×NameKind).2 == NameKind.free)=true from by rfl)]
    unfold cellOf
    rw [hc]
    exact e1
   ·rw [HK]
    cases ex:x == n with
    | true=>exact ⟨c,rfl⟩
    | false=>exact ⟨c',q⟩
   ·rcases GF.mp hx with z|z
    ·subst z
     exact e3 n ⟨c,by rw [HK];simp⟩
    ·exact e4 x z hf
  ·obtain ⟨cl,e1,e2,e3,e4⟩:=ic env r cs (fun x hx=>hn x (GD _ hx)) h
   refine ⟨cl,?_,e2,e3,fun x hx hf=>?_⟩
   ·rw [List.forIn_cons]
    rw [if_neg (show ¬ (((n,k):Str×NameKind).2 == NameKind.free)=true by simpa using e)]
    exact e1
   ·rcases GF.mp hx with z|z
    ·subst z
     exact absurd hf e
    ·exact e4 x z hf
variable {sc:Scope} {env:Env}
theorem qZ (hn:∀ x∈sc.names,x.2=.free->∃ c,env.cells.lookup x.1=some c) :
  ∃ cl,closureFor sc env=pure cl/\(∀ x c,cl.lookup x=some c->env.cells.lookup x=some c)/\∀ x∈sc.names,x.2=.free->∃ c,cl.lookup x.1=some c:=by
 obtain ⟨cl,e1,e2,_,e4⟩:=ic env sc.names [] hn (fun x c z=>by cases z)
 refine ⟨cl,?_,e2,e4⟩
 unfold closureFor
 exact (congrArg (fun (m:Sem (List (Str×Addr)))=>m >>= fun r=>pure r) e1)
theorem eK {κ:Type}:∀ {l:List (Str×κ)} {x:Str} {k:κ},l.lookup x=some k->(x,k)∈l
 | [],_,_,h=>by cases h
 | (n,k')::r,x,k,h=>by
  rw [HK] at h
  cases e:x == n with
  | true=>
   rw [e] at h
   have:x=n:=by simpa using e
   subst this
   cases h
   exact Gz
  | false=>
   rw [e] at h
   exact GD _ (eK h)
def nK (env:Env) (x:Str) (k:NameKind):NameKind:=if (k == NameKind.free && env.scope.kind == .function && env.kindOf x == some .cell)=true then .cell else k
theorem kP {env:Env}:∀ {names:List (Str×NameKind)} {x:Str},
  (names.map fun (p:Str×NameKind)=>match p with|(n,k)=>if (k == NameKind.free && env.scope.kind == .function && env.kindOf n == some .cell)=true then (n,NameKind.cell) else (n,k)).lookup x=(names.lookup x).map (nK env x)
 | [],x=>rfl
 | (n,k)::r,x=>by
  rw [GO]
  by_cases e:x=n
  ·subst e
   dsimp only
   by_cases c:(k == NameKind.free && env.scope.kind == .function && env.kindOf x == some .cell)=true
   ·rw [if_pos c]
    have z:nK env x k=.cell:=if_pos c
    simp [HK,z]
   ·rw [if_neg c]
    have z:nK env x k=k:=if_neg c
    simp [HK,z]
  ·have e':(x == n)=false:=by simpa using e
   dsimp only
   rw [HK (a:=x) (b:=k),e']
   show _=(r.lookup x).map (nK env x)
   rw [<-kP]
   by_cases c:(k == NameKind.free && env.scope.kind == .function && env.kindOf n == some .cell)=true
   ·rw [if_pos c,HK,e']
   ·rw [if_neg c,HK,e']
variable {C:Addr}
theorem kQ {cl:List (Str×Addr)} {x:Str}:(compEnvC sc cl C env).kindOf x=(sc.names.lookup x).map (nK env x):=kP
def uH (N:List Str) (sc0 sc:Scope) (N':List Str) (ix:List (Option Nat)):Bool:=
 sc.kind == .function && ix.length == N'.length &&
 sc.names.all (fun p=>p.2 != .cell && (p.2 != .free || (sc0.names.lookup p.1 == some .cell || sc0.names.lookup p.1 == some .free)) && (p.2 != .local || sc.names.lookup p.1 == some .local)) &&
 (List.range N'.length).all fun j=>match ix[j]?,N'[j]? with
  | some (some i),some x=>N[i]? == some x && sc.names.lookup x == some .free
  | _,_=>true
theorem mR {N:List Str} {sc0 sc:Scope} {N':List Str} {ix:List (Option Nat)} (h:uH N sc0 sc N' ix=true) :
  sc.kind=.function/\ix.length=N'.length/\(∀ p∈sc.names,p.2≠.cell)/\(∀ p∈sc.names,p.2=.free->sc0.names.lookup p.1=some .cell\/sc0.names.lookup p.1=some .free) /\
   (∀ p∈sc.names,p.2=.local->sc.names.lookup p.1=some .local)/\∀ (j i:Nat) (x:Str),ix[j]?=some (some i)->N'[j]?=some x->N[i]?=some x/\sc.names.lookup x=some .free:=by
 unfold uH at h
 simp only [HU,Ht,beq_iff_eq,bne_iff_ne,Bool.or_eq_true,ne_eq] at h
 obtain ⟨⟨⟨h1,h2⟩,h3⟩,h4⟩:=h
 refine ⟨h1,h2,fun p hp=>(h3 p hp).1.1,fun p hp hf=>?_,fun p hp hl=>?_,fun j i x e1 e2=>?_⟩
 ·rcases (h3 p hp).1.2 with z|z
  ·exact absurd hf z
  ·exact z
 ·rcases (h3 p hp).2 with z|z
  ·exact absurd hl z
  ·exact z
 ·have hj:j < N'.length:=(GA.mp e2).1
  have:=h4 j (HE.mpr hj)
  rw [e1,e2] at this
  simpa using this
def mz (X:Cx) (sc:Scope) (N':List Str) (C:Addr) (cl:List (Str×Addr)) (s:Shared) (H:Hp) (fp:List Addr):Cx:=
 { X with N:=N',s₀:=s,H₀:=H,env:=compEnvC sc cl C X.env,outer:=X.stack,stack:=X.stack,ex:=fp,fn:=fun _=>false,pn:=[],xe:=fun _ _=>False }
def qN (ix:List (Option Nat)) (σ:St):St:=ix.map fun o=>match o with|some i=>(σ[i]?).getD none|none=>none
def L9:St->St->Prop
 | [],[]=>True
 | none::r,_::r'=>L9 r r'
 | some v::r,w::r'=>w=some v/\L9 r r'
 | _,_=>False
theorem L9.spec:∀ {a b:St},L9 a b->a.length=b.length/\∀ (i:Nat) v,a[i]?=some (some v)->b[i]?=some (some v)
 | [],[],_=>⟨rfl,fun _ _ z=>by simp at z⟩
 | [],_::_,h=>h.elim
 | none::r,[],h=>h.elim
 | some v::r,[],h=>h.elim
 | none::r,w::r',h=>by
  obtain ⟨e1,e2⟩:=L9.spec (a:=r) (b:=r') h
  refine ⟨by simp [e1],fun i v z=>?_⟩
  cases i with
  | zero=>simp at z
  | succ i=>simpa using e2 i v (by simpa using z)
 | some u::r,w::r',h=>by
  obtain ⟨e0,h⟩:=h
  obtain ⟨e1,e2⟩:=L9.spec (a:=r) (b:=r') h
  refine ⟨by simp [e1],fun i v z=>?_⟩
  cases i with
  | zero=>simp at z;subst z;simp [e0]
  | succ i=>simpa using e2 i v (by simpa using z)
structure PF (X:Cx) (ifs:List Expr) (t:TT):Prop where
 run:∀ (IP:List (Addr×Obj)) (s:Shared) (σ:St) (H:Hp) (Q:Bool->Hp->Prop),KQ X IP σ H s->t σ H Q->
  wpAny (model X.prog X.w) X.A (forIn ifs true fun c r=>if r=true then do let ok <-isTrue c X.env (eval c X.env);pure (ForInStep.yield ok) else pure (ForInStep.yield r)) (TP X IP σ Q) X.xe s
instance {X:Cx} {ifs:List Expr} {t:TT}:CoeFun (PF X ifs t) fun _=>∀ (IP:List (Addr×Obj)) (s:Shared) (σ:St) (H:Hp) (Q:Bool->Hp->Prop),KQ X IP σ H s->t σ H Q->
  wpAny (model X.prog X.w) X.A (forIn ifs true fun c r=>if r=true then do let ok <-isTrue c X.env (eval c X.env);pure (ForInStep.yield ok) else pure (ForInStep.yield r)) (TP X IP σ Q) X.xe s:=⟨PF.run⟩
def D2:TT:=fun _ H Q=>Q true H
theorem fU:PF X [] D2:=⟨fun IP s σ H Q I h=>wpAny_tests_nil ⟨H,I,h⟩⟩
theorem jr {c:Expr} {t:TT} (h:PT X c t):PF X [c] t:=⟨fun IP s σ H Q I q=>wpAny_tests_one (h IP s σ H Q I q)⟩
def wg (J:It) (g:TG) (tf:TT) (te:TE) (ix:List (Option Nat)) (σ:St) (H1:Hp) (Q:VK):Prop:=∃ W:Nat->Nat->List V->Hp->Prop,(∃ m,W 0 m [] H1)/\∀ i m ys H,W i m ys H->
 (J.stop i H/\ys.length<=sizeLine/\∀ D,H D=none->Q (.ref D) (aI H D (.lst ys))) ∨
 (J.go i H/\ys.length<=sizeLine/\∀ x H',J.yld i H x H'->g x (qN ix σ) H' fun σ2 H2=>L9 (qN ix σ) σ2/\tf σ2 H2 fun b H3=>if b=true then te σ2 H3 fun y H4=>∃ m',m' < m/\W (i+1) m' (ys++[y]) H4 else ∃ m',m' < m/\W (i+1) m' ys H3)
def FB (wi:TI) (g:TG) (tf:TT) (te:TE) (ix:List (Option Nat)):TE:=fun σ H Q=>wi σ H fun J H1=>wg J g tf te ix σ H1 Q
section
variable {X:Cx} {tg elt iter:Expr} {ifs:List Expr} {sc:Scope} {N':List Str} {ix:List (Option Nat)} {IP:List (Addr×Obj)} {σ:St} {H2:Hp} {s2:Shared} {fp:List Addr} {cl:List (Str×Addr)} {C:Addr} {pos:Pos}
theorem BF (I:KQ X IP σ H2 s2) (hix:uH X.N X.env.scope sc N' ix=true) (e2:∀ x c,cl.lookup x=some c->X.env.cells.lookup x=some c) (e3:∀ x∈sc.names,x.2=.free->∃ c,cl.lookup x.1=some c)
  (f2:∀ b∈fp,mx X IP H2 b) (fo:∀ b∈fp,∃ o,s2.heap.get? b=some o) (hC:s2.heap.objs.size<=C):(mz X sc N' C cl s2 H2 fp).Ok:=by
 obtain ⟨k1,_,k3,_,_,_⟩:=mR hix
 refine ⟨I.ok.mod,k1,I.ok.glob,I.ok.blt,hC,fun x y c a b=>I.ok.inj x y c (e2 x c a) (e2 y c b),fun x hx=>?_,fun x c z=>(by cases z),I.ok.hd,I.ok.frames,.inl rfl,fun b hb=>?_,I.bs,Hl I.ok.bsz I.sz,fun b o e hb=>?_,fun b hb hf=>?_,I.stack,I.stkFree⟩
 ·have hx':(compEnvC sc cl C X.env).kindOf x=some .cell\/(compEnvC sc cl C X.env).kindOf x=some .free:=hx
  rw [kQ] at hx'
  cases q:sc.names.lookup x with
  | none=>rw [q] at hx';rcases hx' with z|z<;>cases z
  | some k=>
   have hm:=eK q
   have hf:k=.free:=by
    rw [q] at hx'
    have nk:=k3 _ hm
    cases k with
    | free=>rfl
    | cell=>exact absurd rfl nk
    | _=>rcases hx' with z|z<;>(simp [nK] at z)
   exact e3 (x,k) hm hf
 ·obtain ⟨o,ho⟩:=fo b hb
  exact ⟨Hq (He (GT ho) hC),fun x c q=>(f2 b hb).2.2.2.2.1 x c (e2 x c q)⟩
 ·have hb':b∈fp:=hb
  rcases (f2 b hb').2.2.2.1 with z|z
  ·exact I.ok.noex b o e z
  ·exact absurd (He (GT e) (Hl I.ok.bsz z)) (Ic _)
 ·have hb':b∈fp:=hb
  rcases GF.mp (I.stkSub b hf) with z|z
  ·exact (f2 b hb').2.1 z
  ·exact (f2 b hb').2.2.1 z
end
section
variable {X:Cx} {tg elt iter:Expr} {ifs:List Expr} {sc sc0:Scope} {N N':List Str} {ix:List (Option Nat)} {pos:Pos} {wi:TI} {g:TG} {tf:TT} {te:TE}
structure MU (X:Cx) (IP:List (Addr×Obj)) (σ:St) (H:Hp) (s:Shared) (C:Addr):Prop where
 inv:KQ X IP σ H s
 ns:∃ m,s.heap.Ns C m
 free:H C=none
 loc:C≠X.env.locals
 cel:∀ x c,X.env.cells.lookup x=some c->c≠C
 abv:X.s₀.heap.objs.size<=C
 pin:∀ p∈X.pn++IP,p.1≠C
variable {s:Shared} {σ:St} {IP:List (Addr×Obj)}
theorem MU.gone {h':Heap} (L:MU X IP σ H s C) (sb:Heap.SameBut C s.heap h'):KQ X IP σ H { s with heap:=h' }:=
 L.inv.turned (it:=C) (t':=s.toks) (fun b o hb e=>(sb.2 b hb).trans e) L.free L.loc (.inr L.abv) L.cel L.pin
theorem sW {IP:List (Addr×Obj)} {σ:St} {H:Hp} {s:Shared} {Q:VK} {use:Option (Value->Sem Unit)} {Qf:Value->Shared->Prop} {cpos:Pos} (hc:X.calm=true) (hix:uH X.N X.env.scope sc N' ix=true) (hi:PI X tg iter wi)
  (hg:∀ C cl s H fp,PG (mz X sc N' C cl s H fp) tg g) (hf:∀ C cl s H fp,PF (mz X sc N' C cl s H fp) ifs tf) (he:∀ C cl s H fp,PE (mz X sc N' C cl s H fp) elt te)
  (hs:∀ x,foldedSetIterable iter X.env x=pure x) (I:KQ X IP σ H s) (h:FB wi g tf te ix σ H Q)
  (hend:∀ (C D:Addr) (H':Hp) (s':Shared),MU X IP σ H' s' C->Q (.ref D) H'->compPost (model X.prog X.w) X.A X.xe use Qf (.ref D) C (.ok .next) s') :
  wpAny (model X.prog X.w) X.A (comprehension (.ListComp elt [⟨tg,iter,ifs,0⟩] sc pos) sc X.env cpos (newList []) false (eval iter X.env) use) Qf X.xe s:=by
 obtain ⟨hk,IQ,hcell,hfreeX,hnames,hat⟩:=mR hix
 obtain ⟨cl,e1,e2,e3⟩:=qZ (env:=X.env) (sc:=sc) (fun x hx hf=>I.ok.has x.1 (hfreeX x hx hf))
 refine wpAny_comprehension_free (use:=use) (cl:=cl) rfl hs e1 hk hnames (bM (hi IP s σ H _ I h) fun v s1 h1=>bM h1 fun itv s2 h2=>?_)
 obtain ⟨it,fp,tn,J,H2,e,I2,T,st2,f2,W,⟨m0,w0⟩,turn⟩:=h2
 subst e
 refine wpAny_newObj_type (wpAny_newFunctionEnv hcell (by intro y hy;simp at hy) (fun h₁ hns₁ hsb₁=>?_) hk)
 dsimp only at hns₁ hsb₁ ⊢
 generalize hH2:s2.heap.push { cls:=.type "list",dict:=none,data:=.seq ([]:List Value).toArray }=G2 at hns₁ hsb₁ ⊢
 have hCs:G2.objs.size=s2.heap.objs.size+1:=by rw [<-hH2,IF]
 have hDC:s2.heap.objs.size≠G2.objs.size:=by rw [hCs];exact Hq (Ip _)
 have hCle:s2.heap.objs.size<=G2.objs.size:=by rw [hCs];exact Nat.le_succ _
 have belowC:∀ b,b < s2.heap.objs.size->b≠G2.objs.size:=fun b hb=>by rw [hCs];exact Hq (Nat.lt_succ_of_lt hb)
 have belowD:∀ b,b < s2.heap.objs.size->b≠s2.heap.objs.size:=fun b hb=>Hq hb
 have old:∀ b o,s2.heap.get? b=some o->h₁.get? b=some o:=fun b o e=>hsb₁.extBut b o (belowC b (GT e)) (GI _ (hH2 ▸ GI _ e))
 have hacc:h₁.get? s2.heap.objs.size=some { cls:=.type "list",data:=.seq ([]:List Value).toArray }:=hsb₁.extBut _ _ hDC (GI _ (hH2 ▸ GZ _ rfl))
 have fo:∀ b∈fp,∃ o,s2.heap.get? b=some o:=fun b hb=>let ⟨o,ho,_⟩:=T.obj _ _ st2 b hb;⟨o,ho⟩
 have fD:∀ b∈fp,b≠s2.heap.objs.size:=fun b hb=>let ⟨o,ho⟩:=fo b hb;belowD b (GT ho)
 have ok':(mz X sc N' G2.objs.size cl s2 H2 fp).Ok:=BF I2 hix e2 e3 f2 fo hCle
 have HD:H2 s2.heap.objs.size=none:=I2.hok.fresh (GE _)
 have HC:H2 G2.objs.size=none:=I2.hok.fresh hCle
 have I4:KQ (mz X sc N' G2.objs.size cl s2 H2 fp) [] (qN ix σ) H2 { s2 with heap:=h₁,toks:=s2.toks+([]:List (Str×Value)).length }:=by
  refine ⟨ok',rfl,I2.bare,Un.kept old,⟨_,hns₁,fun j x v a b c=>?_⟩,fun x c q=>?_,HC,fun x c q=>I2.freeC x c (e2 x c q),fun p hp=>(by cases hp),I2.hok.kept old,?_⟩
  ·
   have a':N'[j]?=some x:=a
   have b':(ix.map fun o=>match o with|some i=>(σ[i]?).getD none|none=>none)[j]?=some (some v):=b
   rw [GY] at b'
   cases q:ix[j]? with
   | none=>rw [q] at b';cases b'
   | some o=>
    rw [q] at b'
    cases o with
    | none=>cases b'
    | some i=>
     obtain ⟨n1,n2⟩:=hat j i x q a'
     have b'':(σ[i]?).getD none=some v:=Hd b'
     have sv:σ[i]?=some (some v):=by
      cases z:σ[i]? with
      | none=>rw [z] at b'';cases b''
      | some y=>rw [z] at b'';exact congrArg some b''
     obtain ⟨m,hn,hl⟩:=I2.loc
     have kx:=hfreeX (x,.free) (eK n2) rfl
     obtain ⟨u,r,lk⟩:=hl i x v n1 sv (.inr kx)
     refine ⟨u,r,.inr ⟨?_,?_⟩⟩
     ·show (compEnvC sc cl G2.objs.size X.env).kindOf x=some .cell\/(compEnvC sc cl G2.objs.size X.env).kindOf x=some .free
      rw [kQ,n2]
      show some (nK X.env x .free)=some .cell\/some (nK X.env x .free)=some .free
      unfold nK
      split
      ·exact .inl rfl
      ·exact .inr rfl
     ·obtain ⟨c1,hc1⟩:=e3 (x,.free) (eK n2) rfl
      refine ⟨c1,hc1,?_⟩
      have hc2:=e2 x c1 hc1
      rcases lk with ⟨z,_⟩|⟨_,c,hcc,hcl⟩
      ·have z':X.env.scope.names.lookup x=some .local:=z
       rcases kx with y|y<;>(rw [y] at z';cases z')
      ·rw [hc2] at hcc;cases hcc
       obtain ⟨o,ho,hd⟩:=hcl
       exact ⟨o,old c1 o ho,hd⟩
  ·obtain ⟨v,o,ho,hd⟩:=I2.cell x c (e2 x c q)
   exact ⟨v,o,old c o ho,hd⟩
  ·show (ix.map _).length=N'.length
   rw [GC,IQ]
 have cellD:∀ x c,cl.lookup x=some c->c≠s2.heap.objs.size:=fun x c q z=>by
  obtain ⟨v,o,ho,hd⟩:=I2.cell x c (e2 x c q)
  exact belowD c (GT ho) z
 have loop:∀ s₃:Shared,s₃={ s2 with heap:=h₁,toks:=s2.toks+([]:List (Str×Value)).length }->
   codeAny (model X.prog X.w) X.A (.compLoop (.ListComp elt [⟨tg,iter,ifs,0⟩] sc pos) 0 (.ref it) (.ref s2.heap.objs.size) (compEnvC sc cl G2.objs.size X.env))
    (compPost (model X.prog X.w) X.A X.xe use Qf (.ref s2.heap.objs.size) G2.objs.size) s₃:=by
  rintro s₃ rfl
  refine codeAny_loop rfl (fun n s'=>∃ i ys H' its k,KQ (mz X sc N' G2.objs.size cl s2 H2 fp) [] (qN ix σ) H' s'/\tn i s'.heap/\(∀ b∈fp,H' b=none)/\H' s2.heap.objs.size=none /\
   K2 ys its/\s'.heap.get? s2.heap.objs.size=some { cls:=.type "list",data:=.seq its.toArray k }/\W i n ys H') ?_ m0
   ⟨0,[],H2,[],_,I4,T.keep _ _ _ st2 (fun b _ o e=>old b o e),fun b hb=>(f2 b hb).1,HD,.nil,hacc,w0⟩
  rintro n s5 ⟨i,ys,H5,its,k,I5,st5,fr5,hD5,vv,oD,w5⟩
  show wpAny _ X.A ((compTurn (.ListComp elt [⟨tg,iter,ifs,0⟩] sc pos) 0 (.ref it) (.ref s2.heap.objs.size) (compEnvC sc cl G2.objs.size X.env)).onRaise (fun x=>do noteFrame x (compEnvC sc cl G2.objs.size X.env);theTreesLotGoes x)) _ _ s5
  refine wpAny_noted ?_
  rw [compTurn_list]
  have I5p:KQ (mz X sc N' G2.objs.size cl s2 H2 fp) [(s2.heap.objs.size,{ cls:=.type "list",data:=.seq its.toArray k })] (qN ix σ) H5 s5:=I5.pins_of fun p hp=>by
   have hp':p=(s2.heap.objs.size,{ cls:=.type "list",data:=.seq its.toArray k }):=by simpa using hp
   subst hp'
   refine ⟨oD,hD5,hDC,fun hb=>?_,fun v z=>(by cases z)⟩
   obtain ⟨_,o,ho,_⟩:=I2.stack.mem (show s2.heap.objs.size∈uA X.stack from hb)
   exact Ic _ (GT ho)
  have fpk:∀ {H':Hp},(∀ b∈fp,H' b=none)->∀ b∈fp,mx (mz X sc N' G2.objs.size cl s2 H2 fp) [(s2.heap.objs.size,({ cls:=.type "list",data:=.seq its.toArray k }:Obj))] H' b:=fun {H'} hn b hb=>by
   refine ⟨hn b hb,(ok'.exf b hb).1,ok'.exfs b hb,.inl hb,(ok'.exf b hb).2,fun p hp=>?_⟩
   have hp':p=(s2.heap.objs.size,({ cls:=.type "list",data:=.seq its.toArray k }:Obj)):=by
    have z:p∈([]:List (Addr×Obj))++[(s2.heap.objs.size,({ cls:=.type "list",data:=.seq its.toArray k }:Obj))]:=hp
    simpa using z
   subst hp'
   exact (fD b hb).symm
  rcases turn i n ys H5 w5 with ⟨stop,hz,qn⟩|⟨go,hz,step⟩
  ·refine wpAny_bind (wpAny_standAt (wpAny_bind (wpAny_mono (T.done (mz X sc N' G2.objs.size cl s2 H2 fp) rfl rfl rfl hc i _ s5 (qN ix σ) H5 (fun _ _=>False) I5p (fpk fr5) st5 stop) (fun r s6 ⟨hr,I6⟩=>?_) fun _ _ f=>f.elim)))
   subst hr
   refine wpAny_pure ?_
   obtain ⟨m,hn,_⟩:=I6.loc
   have oD6:s6.heap.get? s2.heap.objs.size=some { cls:=.type "list",data:=.seq its.toArray k }:=(I6.pin (s2.heap.objs.size,{ cls:=.type "list",data:=.seq its.toArray k }) (by show _∈([]:List (Addr×Obj))++_;simp)).1
   have u6:Un (uA X.stack) fp H2 H5 s2.heap s6.heap:=I6.base
   have HC5:H5 G2.objs.size=none:=I6.free
   refine hend _ _ (aI H5 s2.heap.objs.size (.lst ys)) s6 ⟨?_,⟨m,hn⟩,by rw [aw hDC.symm];exact HC5,(belowC _ I2.lt).symm,fun x c q=>?_,Hl I2.sz hCle,fun p hp=>?_⟩ (qn _ hD5)
   ·refine I2.call' (s':=s6) (ch:=fp) I6.os ?_ ?_ I6.bare fun b hb=>⟨(f2 b hb).2.2.2.1,(f2 b hb).2.1,(f2 b hb).2.2.2.2.1,(f2 b hb).2.2.2.2.2⟩
    ·refine ⟨fun b o e n nf nx=>u6.keep b o e n nf nx,fun b o e n nf nx=>u6.slot b o e n nf nx,fun b o e n nx=>?_,fun b o e nx=>u6.there b o e nx,fun b xs e=>?_,fun b o u e=>?_,fun b ps e=>?_⟩
     ·rw [aw (belowD b (GT e))];exact u6.free b o e n nx
     ·rw [aw (aK e HD)];exact u6.tups b xs e
     ·rw [aw (aK e HD)];exact u6.frzs b o u e
     ·rw [aw (aK e HD)];exact u6.tbls b ps e
    ·intro b o e
     by_cases hb:b=s2.heap.objs.size
     ·subst hb
      rw [ac] at e;cases e
      exact ⟨hz,its,k,vv,oD6⟩
     ·rw [aw hb] at e
      refine (I6.hok b o e).stay (fun c v hcc q=>q) (fun c q=>?_) fun c xs q=>?_
      ·rw [aw (aK q hD5)];exact q
      ·rw [aw (aK q hD5)];exact q
   ·obtain ⟨v,o,ho,hd⟩:=I2.cell x c q
    exact belowC c (GT ho)
   ·exact belowC p.1 (GT (I2.pin p hp).1)
  ·refine wpAny_bind (wpAny_standAt (wpAny_bind (wpAny_mono (T.item (mz X sc N' G2.objs.size cl s2 H2 fp) rfl rfl rfl hc i _ s5 (qN ix σ) H5 (fun _ _=>False) I5p (fpk fr5) st5 go) (fun r s6 ⟨u,hr,h6⟩=>?_) fun _ _ f=>f.elim)))
   subst hr
   refine wpAny_bind (wpAny_mono h6 (fun _ s7 ⟨x,H7,I7,r7,y7,fP,fr7⟩=>?_) fun _ _ f=>f.elim)
   have I7':=I7.pinned (fpk fr7) (T.obj _ _ fP)
   refine wpAny_bind (wpAny_mono (hg _ _ _ _ _ _ s7 (qN ix σ) H7 x u _ I7' r7 (step x H7 y7)) (fun _ s8 ⟨σ8,H8,I8,x8,q8⟩=>?_) fun _ _ f=>f.elim)
   obtain ⟨xl,xv⟩:=x8.spec
   have keepT:∀ {σ9:St} {H9:Hp} {s9:Shared} {pl:List (Addr×Obj)},(∀ p∈eQ fp s7.heap,p∈pl)->KQ (mz X sc N' G2.objs.size cl s2 H2 fp) pl σ9 H9 s9->tn (i+1) s9.heap/\∀ b∈fp,H9 b=none:=fun {σ9 H9 s9 pl} hp I9=>by
    have pn:∀ b o,b∈fp->s7.heap.get? b=some o->s9.heap.get? b=some o/\H9 b=none:=fun b o hb e=>by
     have:=I9.pin (b,o) (GN _ (hp _ (hZ hb e)))
     exact ⟨this.1,this.2.1⟩
    refine ⟨T.keep _ _ _ fP fun b hb o e=>(pn b o hb e).1,fun b hb=>?_⟩
    obtain ⟨o,e,_⟩:=T.obj _ _ fP b hb
    exact (pn b o hb e).2
   refine wpAny_bind (wpAny_mono (hf _ _ _ _ _ _ s8 σ8 H8 _ I8 q8) (fun ok s9 ⟨H9,I9,q9⟩=>?_) fun _ _ f=>f.elim)
   have pD:∀ {σ9:St} {H9:Hp} {s9:Shared},KQ (mz X sc N' G2.objs.size cl s2 H2 fp) ([(s2.heap.objs.size,({ cls:=.type "list",data:=.seq its.toArray k }:Obj))]++eQ fp s7.heap) σ9 H9 s9->
     s9.heap.get? s2.heap.objs.size=some { cls:=.type "list",data:=.seq its.toArray k }/\H9 s2.heap.objs.size=none:=fun {σ9 H9 s9} I9=>by
    have:=I9.pin (s2.heap.objs.size,{ cls:=.type "list",data:=.seq its.toArray k }) (GN _ (Hu _ (by simp)))
    exact ⟨this.1,this.2.1⟩
   cases ok with
   | false=>
    obtain ⟨m',hm,w9⟩:=(show ∃ m',m' < n/\W (i+1) m' ys H9 from by simpa using q9)
    obtain ⟨t9,fr9⟩:=keepT (fun p hp=>GN _ hp) I9
    obtain ⟨oD9,hD9⟩:=pD I9
    refine wpAny_pure ⟨rfl,m',hm,i+1,ys,H9,its,k,(I9.pins_of (pins':=[]) fun p hp=>nomatch hp).weak xl xv,t9,fr9,hD9,vv,oD9,w9⟩
   | true=>
    have q9':te σ8 H9 fun y H4=>∃ m',m' < n/\W (i+1) m' (ys++[y]) H4:=by simpa using q9
    refine wpAny_bind (wpAny_bind (wpAny_mono (he _ _ _ _ _ _ s9 σ8 H9 _ I9 q9') (fun yv sA ⟨y,HA,IA,rA,m',hm,wA⟩=>?_) fun _ _ f=>f.elim))
    obtain ⟨oDA,hDA⟩:=pD IA
    have hsz:its.toArray.size<=sizeLine:=by rw [GW,<-vv.length];exact hz
    refine wpAny_bind (wpAny_list_append_plain (hsz:=hsz) ⟨_,oDA⟩ fun h9 pl9 sb9=>?_)
    have IB:KQ (mz X sc N' G2.objs.size cl s2 H2 fp) (eQ fp s7.heap) σ8 HA sA:=IA.pins_of fun p hp=>IA.pin p (GN _ (GN _ hp))
    have IC:KQ (mz X sc N' G2.objs.size cl s2 H2 fp) (eQ fp s7.heap) σ8 HA { sA with heap:=h9 }:=IB.turned (it:=s2.heap.objs.size) (t':=sA.toks) (fun b o hb e=>(sb9.2 b hb).trans e) hDA hDC (.inr (GE _)) (fun x c q=>cellD x c q) fun p hp=>by
     have hp':p∈eQ fp s7.heap:=by
      have z:p∈([]:List (Addr×Obj))++eQ fp s7.heap:=hp
      simpa using z
     exact fD p.1 (mH hp').1
    obtain ⟨t9,fr9⟩:=keepT (fun p hp=>hp) IC
    obtain ⟨k',oD'⟩:=pl9
    refine wpAny_pure (wpAny_pure ⟨rfl,m',hm,i+1,ys++[y],HA,its++[yv],k',(IC.pins_of (pins':=[]) fun p hp=>nomatch hp).weak xl xv,t9,fr9,hDA,vv.append (.cons rA .nil),?_,wA⟩)
    show h9.get? s2.heap.objs.size=_
    rw [oD']
    simp
 exact codeAny_compStart_list (loop _ rfl) (T.self X.A 0 _ _ _ (T.keep _ _ _ st2 (fun b _ o e=>old b o e)) (loop _ rfl))
theorem fV (hc:X.calm=true) (hix:uH N sc0 sc N' ix=true) (hi:PI X tg iter wi)
  (hg:∀ C cl s H fp,PG (mz X sc N' C cl s H fp) tg g) (hf:∀ C cl s H fp,PF (mz X sc N' C cl s H fp) ifs tf) (he:∀ C cl s H fp,PE (mz X sc N' C cl s H fp) elt te)
  (eN:X.N=N:=by rfl) (eS:X.env.scope=sc0:=by rfl) (hs:∀ x,foldedSetIterable iter X.env x=pure x:=by intro _;rfl) :
  PE X (.ListComp elt [⟨tg,iter,ifs,0⟩] sc pos) (FB wi g tf te ix):=by
 refine ⟨?_⟩
 intro IP s σ H Q I h
 subst eN eS
 rw [eval_ListComp]
 refine sW (use:=none) hc hix hi hg hf he hs I h fun C D H' s' L q=>?_
 obtain ⟨m,hn⟩:=L.ns
 exact ⟨m,hn,fun h' sb=>⟨.ref D,H',L.gone sb,rfl,q⟩⟩
def BG (i:Nat) (t:TE):TS:=fun D σ H=>t σ H fun v H1=>D.nx (σ.set i (some v)) H1
theorem kR {i:Nat} {y:Str} {py spos:Pos} (hN:X.N.Nodup) (hiy:X.N[i]?=some y) (hy:X.env.scope.names.lookup y=some .local) (hc:X.calm=true) (hix:uH N sc0 sc N' ix=true) (hi:PI X tg iter wi)
  (hg:∀ C cl s H fp,PG (mz X sc N' C cl s H fp) tg g) (hf:∀ C cl s H fp,PF (mz X sc N' C cl s H fp) ifs tf) (he:∀ C cl s H fp,PE (mz X sc N' C cl s H fp) elt te)
  (eN:X.N=N:=by rfl) (eS:X.env.scope=sc0:=by rfl) (hs:∀ x,foldedSetIterable iter X.env x=pure x:=by intro _;rfl)
  (hsw:swapsWith (.ListComp elt [⟨tg,iter,ifs,0⟩] sc pos) (some (.Name y py)) spos.line X.env=pure true:=by rfl) :
  PS X (.Assign [.Name y py] (.ListComp elt [⟨tg,iter,ifs,0⟩] sc pos) spos) (BG i (FB wi g tf te ix)):=by
 refine ⟨?_⟩
 intro IP s σ H Dn I h
 subst eN eS
 rw [exec_Assign_Name_used _ _ _ _ hsw]
 refine wpAny_bind (wpAny_standAt (wpAny_bind ?_))
 show wpAny _ X.A (do let _ <-comprehension (.ListComp elt [⟨tg,iter,ifs,0⟩] sc pos) sc X.env _ (newList []) false (eval iter X.env) (some (assign (.Name y py) X.env))) _ _ s
 refine wpAny_bind (wpAny_mono (sW (use:=some (assign (.Name y py) X.env)) (Qf:=fun _ s'=>SP X IP Dn .next s') hc hix hi hg hf he hs I h fun C D H' s' L q=>?_) (fun _ s' hq=>wpAny_pure (wpAny_pure hq)) fun _ _ e=>e)
 show wpAny _ X.A (assign (.Name y py) X.env (.ref D)) _ _ s'
 refine wpAny_assign_Name (mG L.inv hN hiy (.inl hy) (v:=.ref D) rfl (fun s1 I1 hsb=>?_) (.inr hy))
 obtain ⟨a,sb,ha⟩:=hsb
 have haC:C≠a:=by
  rcases ha with z|z
  ·rw [z];exact L.loc
  ·exact (L.cel y a z).symm
 obtain ⟨m,hn⟩:=L.ns
 have L1:MU X IP (σ.set i (some (.ref D))) H' s1 C:=⟨I1,⟨m,hn.sameBut sb haC⟩,L.free,L.loc,L.cel,L.abv,L.pin⟩
 exact ⟨m,hn.sameBut sb haC,fun h' sb'=>⟨_,H',L1.gone sb',q⟩⟩
end
end L2
namespace L2
open PySem
def Nx (Pv:Nat->List V->Hp->Prop) (n i:Nat) (ys:List V) (H:Hp):Prop:=∃ m',m' < n - i/\(m'=n - (i+1)/\i+1<=n/\Pv (i+1) ys H)
variable {H:Hp}
theorem Nx.mk {Pv:Nat->List V->Hp->Prop} {n i:Nat} {ys:List V} (h:i < n) (p:Pv (i+1) ys H):Nx Pv n i ys H:=⟨n - (i+1),by lia,rfl,h,p⟩
theorem iN {K:ZF} {a:Addr} {xs:List V} {g:TG} {tf:TT} {te:TE} {ix:List (Option Nat)} {σ:St} {Q:VK} (Pv:Nat->List V->Hp->Prop) (h0:Pv 0 [] H)
  (hl:∀ i ys H,i<=xs.length->Pv i ys H->KW K H a xs/\ys.length<=sizeLine)
  (hs:∀ i x ys H,xs[i]?=some x->Pv i ys H->g x (qN ix σ) H fun σ2 H2=>L9 (qN ix σ) σ2/\tf σ2 H2 fun b H3=>if b=true then te σ2 H3 fun y H4=>Nx Pv xs.length i (ys++[y]) H4 else Nx Pv xs.length i ys H3)
  (hd:∀ ys H,Pv xs.length ys H->∀ D,H D=none->Q (.ref D) (aI H D (.lst ys))) :
  wg (Dq K a) g tf te ix σ H Q:=by
 refine ⟨fun i m ys H=>m=xs.length - i/\i<=xs.length/\Pv i ys H,⟨xs.length,by simp,Hj _,h0⟩,?_⟩
 rintro i m ys H ⟨rfl,hi,p⟩
 obtain ⟨q,hz⟩:=hl i ys H hi p
 by_cases Je:i < xs.length
 ·refine .inr ⟨⟨xs,xs[i],q,by simp [Je]⟩,hz,fun x H' y=>?_⟩
  obtain ⟨e,y⟩:=y
  subst e
  exact hs i x ys _ (y xs q) p
 ·have e:i=xs.length:=by lia
  subst e
  exact .inl ⟨⟨xs,q,GE _⟩,hz,hd ys H p⟩
theorem fW {σ:St} {A B:Hp->Prop} (h:A H):D2 σ H fun b H3=>if b=true then A H3 else B H3:=by
 show if true=true then A H else B H
 rw [if_pos rfl]
 exact h
end L2
namespace L2
open PySem PySem.Spec PyProof.Rows
def wj (w:World) (p:Str×V) (e:DictEntry):Prop:=e.hash=hashStr w p.1/\(∃ t,e.key=.str p.1 t)/\K1 p.2 e.val
def ka (w:World) (K:ZF) (a:Addr) (kvs:List (Str×V)):Prop:=
 ∃ (es:Array DictEntry) (ep:Nat),K.lookup a=some { cls:=.type "dict",data:=.dict es ep }/\Paired (wj w) kvs es.toList
theorem pQ {P:Program} {w:World}:∀ {kvs:List (Str×V)} {es:List DictEntry},Paired (wj w) kvs es->∀ e∈es,∃ k,(strKind P w).is k e.key=true/\e.hash=(strKind P w).hash k
 | _,_,.nil,_,h=>nomatch h
 | (x,y)::r,e::es,.cons h t,e',he=>by
  rcases GF.mp he with z|z
  ·subst z
   obtain ⟨h1,⟨tk,h2⟩,h3⟩:=h
   refine ⟨x,?_,h1⟩
   rw [h2]
   show Value.isStrOf x (.str x tk)=true
   simp [Value.isStrOf]
  ·exact pQ t e' z
mutual
inductive Dt (K:ZF) (H:Hp):V->PyData->Prop
 | non:Dt K H .non .none
 | bl (b:Bool):Dt K H (.bl b) (.bool b)
 | int (i:Int):Dt K H (.int i) (.int i)
 | str (x:Str):Dt K H (.str x) (.str x)
 | lst {a:Addr} {xs:List V} {ds:List PyData}:KW K H a xs->Ln K H xs ds->Dt K H (.ref a) (.list ds)
 | tup {a:Addr} {xs:List V} {ds:List PyData}:KP K H a xs->Ln K H xs ds->Dt K H (.ref a) (.tuple ds)
inductive Ln (K:ZF) (H:Hp):List V->List PyData->Prop
 | nil:Ln K H [] []
 | cons {v:V} {d:PyData} {vs:List V} {ds:List PyData}:Dt K H v d->Ln K H vs ds->Ln K H (v::vs) (d::ds)
end
section
variable {X:Cx} {IP:List (Addr×Obj)} {σ:St} {H:Hp} {s:Shared}
mutual
theorem Dt.reads (I:KQ X IP σ H s):∀ {v:V} {d:PyData} {u:Value},Dt X.K H v d->K1 v u->∃ as,Reads s.heap u d as
 | _,_,_,.non,r=>by cases r;exact ⟨_,.none⟩
 | _,_,_,.bl b,r=>by cases r;exact ⟨_,.bool b⟩
 | _,_,_,.int i,r=>by obtain ⟨t,rfl⟩:=r;exact ⟨_,.int i t⟩
 | _,_,_,.str x,r=>by obtain ⟨t,rfl⟩:=r;exact ⟨_,.str x t⟩
 | _,_,_,.lst hS hA,r=>by
  cases r
  obtain ⟨its,rv,⟨o,n,e,c,dd,hd⟩,hz⟩:=I.list hS
  obtain ⟨as,ha⟩:=Ln.reads I hA rv
  first
   | exact ⟨_,.list e c hd (by simpa using ha)⟩
   | exact ⟨_,.list e c dd (by simpa using ha)⟩
 | _,_,_,.tup hS hA,r=>by
  cases r
  obtain ⟨its,rv,⟨o,e,c,n,hd⟩,hz⟩:=I.tuple hS
  obtain ⟨as,ha⟩:=Ln.reads I hA rv
  exact ⟨_,.tuple e c hd (by simpa using ha)⟩
theorem Ln.reads (I:KQ X IP σ H s):∀ {vs:List V} {ds:List PyData} {us:List Value},Ln X.K H vs ds->K2 vs us->∃ as,ReadsAll s.heap us ds as
 | _,_,_,.nil,.nil=>⟨_,.nil⟩
 | _,_,_,.cons h t,.cons r rr=>by
  obtain ⟨a1,h1⟩:=Dt.reads I h r
  obtain ⟨a2,h2⟩:=Ln.reads I t rr
  exact ⟨_,.cons h1 h2⟩
end
end
section
variable {X:Cx}
inductive Nw (K:ZF) (x:V) (y:V) (H:Hp) (Q:VK):Prop
 | mk (dx dy:_):Dt K H x dx->Dt K H y dy->dx.canLay0=true->dy.canLay0=true->min dx.depth dy.depth<=60->Q (.bl (PyData.eqv dx dy)) H->Nw K x y H Q
inductive MZ (K:ZF) (x:V) (y:V) (H:Hp) (Q:VK):Prop
 | mk (dx dy:_):Dt K H x dx->Dt K H y dy->dx.canLay0=true->dy.canLay0=true->min dx.depth dy.depth<=60->Q (.bl (!PyData.eqv dx dy)) H->MZ K x y H Q
theorem Nb {k:Nat} (hr:KY k X.A):fR X (compareOp .Eq) (Nw X.K):=by
 intro IP s σ H x y v u Q I rx ry h
 obtain ⟨dx,dy,h1,h2,c1,c2,dp,q⟩:=h
 obtain ⟨as,ra⟩:=h1.reads I rx
 obtain ⟨bs,rb⟩:=h2.reads I ry
 exact SeqAt.compareEq_reads ra rb c1 c2 (by have:=hr.un;lia) ⟨.bl _,H,I,rfl,q⟩
theorem Lm {k:Nat} (hr:KY k X.A):fR X (compareOp .NotEq) (MZ X.K):=by
 intro IP s σ H x y v u Q I rx ry h
 obtain ⟨dx,dy,h1,h2,c1,c2,dp,q⟩:=h
 obtain ⟨as,ra⟩:=h1.reads I rx
 obtain ⟨bs,rb⟩:=h2.reads I ry
 exact SeqAt.compareNe_reads ra rb c1 c2 (by have:=hr.un;lia) ⟨.bl _,H,I,rfl,q⟩
end
def Nf (ns:List Int):PyData:=.list (ns.map .int)
theorem LZ {K:ZF} {H:Hp}:∀ (ns:List Int),Ln K H (ns.map V.int) (ns.map PyData.int)
 | []=>.nil
 | n::r=>.cons (.int n) (LZ r)
theorem Nv {K:ZF} {H:Hp} {a:Addr} {ns:List Int} (h:KW K H a (ns.map V.int)):Dt K H (.ref a) (Nf ns):=.lst h (LZ ns)
theorem LS:∀ ns:List Int,PyData.canLayAll0 (ns.map PyData.int)=true
 | []=>rfl
 | n::r=>by
  show (true && PyData.canLayAll0 (r.map PyData.int))=true
  rw [LS r]
  rfl
theorem KQ.turnedS {X:Cx} {IP:List (Addr×Obj)} {σ:St} {H H':Hp} {s:Shared} {h':Heap} {t':Nat} {ch:List Addr} (I:KQ X IP σ H s) (hf:∀ b∈ch,mx X IP H b)
  (k:∀ b o,b∉ch->s.heap.get? b=some o->h'.get? b=some o) (hH:∀ b o,H b=some o->H' b=some o) (hN:∀ b,b < s.heap.objs.size->H b=none->H' b=none)
  (new:∀ b o,H b=none->H' b=some o->K6 X.prog X.w H' h' b o):KQ X IP σ H' { s with heap:=h',toks:=t' }:=by
 refine I.step (g':=s.gens) (d':=s.drawn) (ch:=ch) (fun b hb=>?_) (fun b o _ _ hc e _=>k b o hc e) (fun b o _ _ hc e _=>⟨o.slots,k b o hc e⟩) (fun b o _ e n=>hN b (GT e) n)
  (fun b o hc e=>⟨o,k b o hc e⟩) (fun b xs e=>hH b _ e) (fun b o u e=>hH b _ e) (fun b ps e=>⟨#[],by rw [hH b _ e];simp⟩) (fun m hm=>?_) (fun b u e=>?_) I.bare
 ·obtain ⟨_,f1,_,f3,f4,f5⟩:=hf b hb
  exact ⟨f3,f1,f4,f5⟩
 ·obtain ⟨o,es,ep,ho,r⟩:=hm
  exact ⟨o,es,ep,k _ o (fun z=>(hf _ z).2.1 rfl) ho,r⟩
 ·cases q:H b with
  | none=>exact new b u q e
  | some v=>
   rw [hH b v q] at e
   cases e
   refine (I.hok b u q).stay (fun c v hc q'=>k c v (fun z=>?_) q') (fun c q'=>hH c _ q') fun c xs q'=>hH c _ q'
   have n:=(hf c z).1
   rcases hc with rfl|hc
   ·rw [q] at n;cases n
   ·rw [hc] at n;cases n
section
variable {X:Cx}
theorem Mi {x:Str} {n:String} {pos:Pos} (hg:Gl X x) (hm:X.mg x=none) (hv:bootBuiltins x=some (.type n)) (hn:x≠"__name__":=by decide) (hd:(x == ("__debug__":Str))=false:=by decide):PE X (.Name x pos) (tC (.ty n)):=
 yM hg hm hv rfl hn hd
variable {w:World}
theorem Ml {P:Program}:∀ {kvs:List (Str×V)} {es:List DictEntry},Paired (wj w) kvs es->∃ vs:List (Str×Value),Pairs (strKind P w) es vs/\vs.map (·.1)=kvs.map (·.1)
 | _,_,.nil=>⟨[],.nil,rfl⟩
 | (x,y)::r,e::es,.cons h t=>by
  obtain ⟨vs,p,q⟩:=Ml (P:=P) t
  obtain ⟨h1,⟨tk,h2⟩,h3⟩:=h
  refine ⟨(x,e.val)::vs,.cons ?_ rfl p,by rw [GO,GO,q]⟩
  rw [h2]
  show Value.isStrOf x (.str x tk)=true
  simp [Value.isStrOf]
theorem Mj {P:Program} {w:World}:∀ {ks:List Str} {us:List Value},us.length=ks.length->(∀ (j:Nat) k u,ks[j]?=some k->us[j]?=some u->(strKind P w).is k u=true)->K2 (ks.map V.str) us
 | [],[],_,_=>.nil
 | k::ks,[],h,_=>by cases h
 | [],u::us,h,_=>by cases h
 | k::ks,u::us,h,hv=>by
  refine .cons ?_ (Mj (P:=P) (w:=w) (by simpa using h) fun j k' u' a b=>hv (j+1) k' u' (by simpa using a) (by simpa using b))
  obtain ⟨t,e⟩:=Value.isStrOf_shape (hv 0 k u rfl rfl)
  exact ⟨t,e⟩
theorem Me (hc:X.calm=true):dN X (.type "list") (fun xs H Q=>∃ a kvs,xs=[.ref a]/\ka X.w X.K a kvs/\(kvs.map (·.1)).Nodup/\(a == sysModules)=false/\kvs.length<=1000/\∀ p,H p=none->Q (.ref p) (aI H p (.lst (kvs.map fun kv=>V.str kv.1)))):=by
 intro IP s σ H xs us Q I r h
 obtain ⟨a,kvs,rfl,⟨es,ep,hk,hp⟩,nd,lo,hz,q⟩:=h
 cases r with
 | cons r0 rr=>
  cases rr
  cases r0
  have ho:=I.kIn a _ hk
  obtain ⟨vs,pv,ek⟩:=Ml (P:=X.prog) hp
  have hat:s.heap.DictAt (strKind X.prog X.w) a vs ep:=⟨_,es,ho,⟨rfl,rfl,rfl⟩,rfl,fun e he'=>pQ hp e (by simpa using he'),pv,by rw [ek];exact nd⟩
  have hl:vs.length=kvs.length:=by
   have:=congrArg List.length ek
   simpa using this
  have sz:(1000:Nat)<=sizeLine:=by decide
  refine PySem.W.kdl_call (PySem.W.kdl_dict (knd:=strKind X.prog X.w) (kvs:=vs) (ep:=ep) lo) (I.ok.hd hc) hat (by lia) fun h' tk acc' c' hkeep hD hacc=>?_
  have hv:K2 ((kvs.map (·.1)).map V.str) acc'.toList:=by
   refine Mj (P:=X.prog) (w:=X.w) (by rw [Array.length_toList,hacc.1,GC,hl]) fun j k u e1 e2=>?_
   obtain ⟨k',x',e3,e4⟩:=hacc.2 j u (by rw [<-Array.getElem?_toList];exact e2)
   rw [<-ek,GY,e3] at e1
   have:k'=k:=by simpa using e1
   rw [<-this];exact e4
  have e0:kvs.map (fun kv=>V.str kv.1)=(kvs.map (·.1)).map V.str:=by rw [Hz];rfl
  refine ⟨.ref s.heap.objs.size,aI H s.heap.objs.size (.lst (kvs.map fun kv=>V.str kv.1)),I.laid (t':=tk) hkeep (GE _) ?_,rfl,q _ (I.hok.fresh (GE _))⟩
  refine ⟨by rw [GC];lia,acc'.toList,c',by rw [e0];exact hv,?_⟩
  rw [hD]
open PySem.Builtin.Str in
def LD (x y:Str):List Str:=partsBetween x (occurrences x y 0 x.length (x.length+1)) y.length
theorem Mq:∀ (l:List (Str×Tok)),K2 ((l.map (·.1)).map V.str) (strValues l)
 | []=>.nil
 | p::r=>.cons ⟨p.2,rfl⟩ (Mq r)
end
end L2
namespace TK
def dI (c:Nat):Bool:=c == 32 || c == 10
def cZ (c:Nat):Bool:=[40,41,123,125,91,93,44,59,43,45,38,124,94,60,61].contains c
def fM:List Nat->Nat
 | []=>0
 | [c]=>if cZ c then 1 else 0
 | c::d::_=>if (c == 60 && d == 60) || (c == 62 && d == 62) then 2 else if cZ c then 1 else 0
def run:List Nat->Nat
 | []=>0
 | c::r=>if dI c || fM (c::r) != 0 then 0 else 1+run r
theorem dC (c:Nat):fM [c]=if cZ c=true then 1 else 0:=rfl
theorem cq (c d:Nat) (r:List Nat):fM (c::d::r)=if ((c == 60 && d == 60) || (c == 62 && d == 62))=true then 2 else if cZ c=true then 1 else 0:=rfl
theorem cg (c:Nat) (r:List Nat):run (c::r)=if (dI c || fM (c::r) != 0)=true then 0 else 1+run r:=by rw [run]
theorem nL (l:List Nat):fM l<=l.length:=by
 match l with
 | []=>simp [fM]
 | [c]=>rw [dC];split<;>simp
 | c::d::r=>rw [cq];split<;>(try split)<;>simp
theorem nN:∀ l:List Nat,run l<=l.length
 | []=>by simp [run]
 | c::r=>by
  have:=nN r
  rw [cg]
  split<;>simp<;>lia
def one (l:List Nat):Nat:=if fM l=0 then run l else fM l
variable {c:Nat}
theorem kc {r:List Nat} (h:dI c=false):0 < one (c::r):=by
 unfold one
 by_cases e:fM (c::r)=0
 ·rw [if_pos e]
  rw [cg,h,e]
  simp
  lia
 ·rw [if_neg e];lia
theorem BH (l:List Nat):one l<=l.length:=by
 unfold one
 split
 ·exact nN l
 ·exact nL l
def jU:Nat->List Nat->List (List Nat)
 | 0,_=>[]
 | _,[]=>[]
 | n+1,c::r=>if dI c then jU n r else (c::r).take (one (c::r))::jU n ((c::r).drop (one (c::r)))
theorem ie:∀ (n m:Nat) (l:List Nat),l.length<=n->l.length<=m->jU n l=jU m l
 | 0,0,_,_,_=>rfl
 | 0,m+1,l,h,_=>by
  have:l=[]:=HP.mp (by lia)
  subst this;rfl
 | n+1,0,l,_,h=>by
  have:l=[]:=HP.mp (by lia)
  subst this;rfl
 | n+1,m+1,[],_,_=>rfl
 | n+1,m+1,c::r,h1,h2=>by
  simp only [GB] at h1 h2
  unfold jU
  by_cases g:dI c=true
  ·rw [if_pos g,if_pos g]
   exact ie n m r (by lia) (by lia)
  ·rw [if_neg g,if_neg g]
   have p:=kc (r:=r) (by simpa using g)
   rw [ie n m _ (by rw [Hy,GB];lia) (by rw [Hy,GB];lia)]
def toks (l:List Nat):List (List Nat):=jU l.length l
theorem kT:toks []=[]:=rfl
theorem iO {r:List Nat} (h:dI c=true):toks (c::r)=toks r:=by
 unfold toks
 rw [GB]
 show (if dI c then jU r.length r else _)=_
 rw [if_pos h]
theorem kU {r:List Nat} (h:dI c=false):toks (c::r)=(c::r).take (one (c::r))::toks ((c::r).drop (one (c::r))):=by
 unfold toks
 rw [GB]
 show (if dI c then _ else (c::r).take (one (c::r))::jU r.length ((c::r).drop (one (c::r))))=_
 rw [if_neg (by rw [h];decide)]
 have p:=kc (r:=r) h
 rw [ie r.length _ _ (by rw [Hy,GB];lia) (GE _)]
structure Tok (t:List Nat):Prop where
 cut:∀ s:List Nat,(s=[]\/∃ c r,s=c::r/\dI c=true)->one (t++s)=t.length
 ne:t≠[]
 ng:∀ c∈t,dI c=false
theorem pR {t s:List Nat} (h:Tok t) (hs:s=[]\/∃ c r,s=c::r/\dI c=true):toks (t++s)=t::toks s:=by
 cases t with
 | nil=>exact absurd rfl h.ne
 | cons c r=>
  have g:=h.ng c Gz
  have e:=h.cut s hs
  rw [Ho] at e ⊢
  rw [kU g,e]
  have e1:(c::(r++s)).take (c::r).length=c::r:=by rw [<-Ho,List.take_left'];rfl
  have e2:(c::(r++s)).drop (c::r).length=s:=by rw [<-Ho,List.drop_left'];rfl
  rw [e1,e2]
theorem sX:∀ (l s:List Nat),(s=[]\/∃ c r,s=c::r/\dI c=true)->run (l.take (run l)++s)=run l
 | [],s,hs=>by
  rcases hs with rfl|⟨c,r,rfl,g⟩
  ·rfl
  ·show run (c::r)=0
   rw [cg,g];simp
 | c::r,s,hs=>by
  by_cases q:(dI c || fM (c::r) != 0)=true
  ·have e:run (c::r)=0:=by rw [cg,if_pos q]
   rw [e]
   rcases hs with rfl|⟨d,r',rfl,g⟩
   ·rfl
   ·show run (d::r')=0
    rw [cg,g];simp
  ·have e:run (c::r)=1+run r:=by rw [cg,if_neg q]
   rw [e,Nat.add_comm 1,List.take_succ_cons,Ho]
   have ih:=sX r s hs
   simp at q
   obtain ⟨qg,qs⟩:=q
   have q2:(dI c || fM (c::(r.take (run r)++s)) != 0)=false:=by
    rw [qg]
    simp
    have sc:cZ c=false:=by
     cases r with
     | nil=>
      rw [dC] at qs
      split at qs
      ·cases qs
      ·rename_i nn;simpa using nn
     | cons d r2=>
      rw [cq] at qs
      split at qs
      ·cases qs
      ·split at qs
       ·cases qs
       ·rename_i nn;simpa using nn
    cases hh:r.take (run r)++s with
    | nil=>rw [dC,sc];rfl
    | cons d r2=>
     rw [cq,sc]
     have nd:((c == 60 && d == 60) || (c == 62 && d == 62))=false:=by
      cases r with
      | nil=>
       rw [List.take_nil,Ig] at hh
       rcases hs with z|⟨c2,r3,z,g⟩
       ·rw [z] at hh;cases hh
       ·rw [z] at hh
        injection hh with h1 _
        subst h1
        unfold dI at g
        simp at g
        rcases g with rfl|rfl<;>simp
      | cons d2 r3=>
       by_cases z0:run (d2::r3)=0
       ·rw [z0,List.take_zero,Ig] at hh
        rcases hs with z|⟨c2,r4,z,g⟩
        ·rw [z] at hh;cases hh
        ·rw [z] at hh
         injection hh with h1 _
         subst h1
         unfold dI at g
         simp at g
         rcases g with rfl|rfl<;>simp
       ·obtain ⟨k,hk⟩:∃ k,run (d2::r3)=k+1:=⟨run (d2::r3) - 1,by lia⟩
        rw [hk,List.take_succ_cons,Ho] at hh
        injection hh with h1 _
        subst h1
        rw [cq] at qs
        split at qs
        ·cases qs
        ·rename_i nn
         simpa using nn
     rw [nd]
     rfl
   rw [show run (c::(r.take (run r)++s))=1+run (r.take (run r)++s) by rw [cg,if_neg (by rw [q2];decide)],ih,Nat.add_comm]
theorem wk:∀ (l:List Nat),∀ c∈l.take (run l),dI c=false
 | [],_,h=>by cases h
 | c::r,d,h=>by
  by_cases q:(dI c || fM (c::r) != 0)=true
  ·rw [cg,if_pos q] at h;cases h
  ·rw [cg,if_neg q,Nat.add_comm,List.take_succ_cons] at h
   rcases GF.mp h with z|z
   ·subst z;simp at q;exact q.1
   ·exact wk r d z
variable {d:Nat}
theorem uI (h:((c == 60 && d == 60) || (c == 62 && d == 62))=true):dI c=false/\dI d=false:=by
 simp at h
 rcases h with ⟨rfl,rfl⟩|⟨rfl,rfl⟩<;>exact ⟨rfl,rfl⟩
theorem uJ (h:dI d=true):((c == 60 && d == 60) || (c == 62 && d == 62))=false:=by
 unfold dI at h
 simp at h
 rcases h with rfl|rfl<;>simp
theorem kd {r:List Nat} (h:dI c=false):Tok ((c::r).take (one (c::r))):=by
 by_cases e:fM (c::r)=0
 ·have o:one (c::r)=run (c::r):=if_pos e
  have rp:0 < run (c::r):=by rw [<-o];exact kc h
  rw [o]
  refine ⟨fun s hs=>?_,fun z=>?_,wk _⟩
  ·have rc:=sX (c::r) s hs
   have s0:fM ((c::r).take (run (c::r))++s)=0:=by
    cases hh:(c::r).take (run (c::r))++s with
    | nil=>rfl
    | cons d r2=>
     rw [hh,cg] at rc
     split at rc
     ·lia
     ·rename_i nn
      simp at nn
      exact nn.2
   unfold one
   rw [if_pos s0,rc,GG]
   have:=nN (c::r)
   lia
  ·have:=congrArg List.length z
   rw [GG] at this
   have:=nN (c::r)
   simp at *
   lia
 ·have o:one (c::r)=fM (c::r):=if_neg e
  rw [o]
  have key:(cZ c=true/\fM (c::r)=1)\/∃ d r2,r=d::r2/\((c == 60 && d == 60) || (c == 62 && d == 62))=true/\fM (c::r)=2:=by
   cases r with
   | nil=>
    rw [dC] at e ⊢
    split at e
    ·rename_i nn;exact .inl ⟨nn,by rw [if_pos nn]⟩
    ·exact absurd rfl e
   | cons d r2=>
    rw [cq] at e ⊢
    by_cases nn:((c == 60 && d == 60) || (c == 62 && d == 62))=true
    ·exact .inr ⟨d,r2,rfl,nn,by rw [if_pos nn]⟩
    ·rw [if_neg nn] at e ⊢
     by_cases n2:cZ c=true
     ·exact .inl ⟨n2,by rw [if_pos n2]⟩
     ·rw [if_neg n2] at e;exact absurd rfl e
  rcases key with ⟨sc,se⟩|⟨d,r2,rfl,dd,se⟩
  ·rw [se]
   refine ⟨fun s hs=>?_,by simp,fun x hx=>?_⟩
   ·show one (c::s)=1
    have:fM (c::s)=1:=by
     rcases hs with rfl|⟨d,r2,rfl,g⟩
     ·rw [dC,if_pos sc]
     ·rw [cq,uJ g,if_neg (by decide),if_pos sc]
    unfold one
    rw [this];rfl
   ·have:x=c:=by simpa using hx
    rw [this];exact h
  ·rw [se]
   refine ⟨fun s hs=>?_,by simp,fun x hx=>?_⟩
   ·show one (c::d::s)=2
    have:fM (c::d::s)=2:=by rw [cq,if_pos dd]
    unfold one
    rw [this];rfl
   ·have hx':x=c\/x=d:=by simpa using hx
    rcases hx' with z|z
    ·rw [z];exact h
    ·rw [z];exact (uI dd).2
theorem gF:∀ (s l:List Nat),(∀ c∈s,dI c=true)->toks (s++l)=toks l
 | [],_,_=>rfl
 | c::r,l,h=>by
  rw [Ho,iO (h c Gz)]
  exact gF r l fun d hd=>h d (GD _ hd)
def jn (sep:List Nat):List (List Nat)->List Nat
 | []=>[]
 | [t]=>t
 | t::u::r=>t++(sep++jn sep (u::r))
end TK
namespace L2
open PySem PySem.Spec PyProof.Rows
def S (l:List Nat):Str:=⟨l.toArray⟩
theorem aG (l:List Nat):(S l).length=l.length:=by show l.toArray.size=_;simp
theorem Mr {a b:List Nat}:S a=S b↔a=b:=⟨fun h=>by
 have:(S a).cps.toList=(S b).cps.toList:=by rw [h]
 simpa [S] using this,fun h=>by rw [h]⟩
def fX (l:List Nat) (lo hi:Option Int):List Nat:=(l.drop (HT.sIx l.length 0 lo)).take (HT.sIx l.length l.length hi - HT.sIx l.length 0 lo)
theorem y3 (n:Nat) (v:Option Int) (d:Nat) (hd:d<=n):HT.sIx n d v<=n:=by
 cases v with
 | none=>exact hd
 | some i=>
  show (if i < 0 then (i+(n:Int)).toNat else min i.toNat n)<=n
  split<;>lia
open PySem.Builtin.Str in
theorem pS (lo hi:Option Int) (n:Nat):strSliceIndices lo hi 1 n=(List.range (HT.sIx n n hi - HT.sIx n 0 lo)).map (HT.sIx n 0 lo+·):=by
 have clip:∀ (v:Option Int) (d:Nat),d<=n->(match v with|none=>(d:Int)|some i=>max 0 (min (if i < 0 then i+(n:Int) else i) n))=((HT.sIx n d v:Nat):Int):=fun v d hd=>by
  cases v with
  | none=>rfl
  | some i=>
   show max 0 (min (if i < 0 then i+(n:Int) else i) (n:Int))=(((if i < 0 then (i+(n:Int)).toNat else min i.toNat n:Nat)):Int)
   by_cases h:i < 0
   ·rw [if_pos h,if_pos h];lia
   ·rw [if_neg h,if_neg h];lia
 have c1:=clip lo 0 (Hj _)
 have c2:=clip hi n (GE _)
 rw [<-sliceRange_one]
 rw [<-c1,<-c2]
 unfold strSliceIndices
 simp only [show (1:Int) > 0 by decide,if_true]
 cases lo<;>cases hi<;>rfl
theorem kW (l:List Nat) (a:Nat):∀ k,((List.range k).map (a+·)).filterMap (fun i=>l.toArray[i]?)=(l.drop a).take k
 | 0=>by simp
 | k+1=>by
  rw [List.range_succ,GK,List.filterMap_append,kW l a k,List.take_add_one]
  congr 1
  rw [List.getElem?_drop]
  cases q:l[a+k]? with
  | none=>simp [HY,q]
  | some v=>simp [HY,q]
open PySem.Builtin.Str in
theorem pT (l:List Nat) (lo hi:Option Int):(if ((1:Int) == 1 && (strSliceIndices lo hi 1 (S l).length).length == (S l).length)=true then S l else ⟨((strSliceIndices lo hi 1 (S l).length).filterMap ((S l).cps[·]?)).toArray⟩)=S (fX l lo hi):=by
 rw [aG,pS]
 have e:((List.range (HT.sIx l.length l.length hi - HT.sIx l.length 0 lo)).map (HT.sIx l.length 0 lo+·)).filterMap ((S l).cps[·]?)=fX l lo hi:=kW l _ _
 rw [e]
 by_cases c:((1:Int) == 1 && ((List.range (HT.sIx l.length l.length hi - HT.sIx l.length 0 lo)).map (HT.sIx l.length 0 lo+·)).length == l.length)=true
 ·rw [if_pos c]
  simp at c
  have h2:=y3 l.length hi l.length (GE _)
  have:fX l lo hi=l:=by
   unfold fX
   by_cases z:l.length=0
   ·have:l=[]:=HP.mp z
    subst this;simp
   ·have h0:HT.sIx l.length 0 lo=0:=by lia
    rw [h0,List.drop_zero,HF (by lia)]
  rw [this]
 ·rw [if_neg c];rfl
section
variable {X:Cx}
theorem nO:Fz X (fun x lo hi H Q=>∃ l,x=.str (S l)/\l.length<=100000/\Q (.str (S (fX l lo hi))) H):=by
 intro IP s σ H x v vl vu lo hi sl Q I rx hs pl pu h
 obtain ⟨l,rfl,hz,q⟩:=h
 obtain ⟨t,rfl⟩:=rx
 obtain ⟨os,hos,hcs,hds⟩:=id hs
 have sz:(100000:Nat)<=sizeLine:=by decide
 have lc:(S (fX l lo hi)).length<=sizeLine:=by
  rw [aG]
  unfold fX
  rw [GG,Hy]
  lia
 refine ⟨"str",_,F.slot_str_getitem.lookup,typeIs_str _ _ _,?_⟩
 have fin:∀ (a b:Option (Int×Tok)),a.map (·.1)=lo->b.map (·.1)=hi->s.heap.IsSlice sl a b none->wpAny (model X.prog X.w) X.A (getItem (.str (S l) t) (.ref sl)) (EP X IP σ Q) X.xe s:=fun a b ea eb hS=>by
  refine wpAny_getItem_str_slice hS rfl ?_
  unfold sliceMade slicePicked
  rw [ea,eb]
  refine post_val_or_str ?_
  show (if ((1:Int) == 1 && (Builtin.Str.strSliceIndices lo hi 1 (S l).length).length == (S l).length)=true then S l else ⟨((Builtin.Str.strSliceIndices lo hi 1 (S l).length).filterMap ((S l).cps[·]?)).toArray⟩).length<=sizeLine/\∀ t' k,EP X IP σ Q (.str (if ((1:Int) == 1 && (Builtin.Str.strSliceIndices lo hi 1 (S l).length).length == (S l).length)=true then S l else ⟨((Builtin.Str.strSliceIndices lo hi 1 (S l).length).filterMap ((S l).cps[·]?)).toArray⟩) t') { s with toks:=k }
  rw [pT]
  exact ⟨lc,fun t' k=>⟨.str (S (fX l lo hi)),H,I.tok _,⟨t',rfl⟩,q⟩⟩
 cases pl with
 | none=>
  cases pu with
  | none=>exact fin none none rfl rfl ⟨os,hos,hcs,hds⟩
  | int j u=>exact fin none (some (j,u)) rfl rfl ⟨os,hos,hcs,hds⟩
 | int i u0=>
  cases pu with
  | none=>exact fin (some (i,u0)) none rfl rfl ⟨os,hos,hcs,hds⟩
  | int j u=>exact fin (some (i,u0)) (some (j,u)) rfl rfl ⟨os,hos,hcs,hds⟩
theorem fA (c:Nat) (l:List Nat):(!(Builtin.Str.occurrences (S l) (S [c]) 0 (S l).length 1).isEmpty)=decide (c∈l):=by
 rw [HG,StrLaws.found_iff,decide_eq_true_iff]
 constructor
 ·rintro ⟨i,hi,e⟩
  rw [aG,aG] at hi
  have hi':i < l.length:=by simp at hi;lia
  unfold Builtin.Str.subAt at e
  have e':l.toArray.extract i (i+1)=#[c]:=eq_of_beq e
  have:(l.drop i).take 1=[c]:=by
   have:=congrArg Array.toList e'
   simpa [List.extract_eq_drop_take] using this
  have hm:c∈(l.drop i).take 1:=by rw [this];simp
  exact List.mem_of_mem_drop (HJ hm)
 ·intro h
  obtain ⟨i,hi,e⟩:=List.getElem_of_mem h
  refine ⟨i,by rw [aG,aG];simp;lia,?_⟩
  unfold Builtin.Str.subAt
  have:l.toArray.extract i (i+1)=#[c]:=by
   apply Array.toList_inj.mp
   rw [Array.toList_extract]
   simp [List.extract_eq_drop_take,Hr hi,e]
  show (l.toArray.extract i (i+1) == #[c])=true
  rw [this];exact beq_self_eq_true _
inductive AI (tb:TE) (σ:St) (Q:VK) (x:V) (H1:Hp):Prop
 | mk (l:_):x=.str (S l)->l.length<=100000->(if l=[] then tb σ H1 Q else Q (.str (S l)) H1)->AI tb σ Q x H1
def FC (ta tb:TE):TE:=fun σ H Q=>ta σ H fun x H1=>AI tb σ Q x H1
theorem BI {a b:Expr} {rest:List Expr} {pos:Pos} {ta tb:TE} (ha:PE X a ta) (hb:PE X (.BoolOp .Or (b::rest) pos) tb):PE X (.BoolOp .Or (a::b::rest) pos) (FC ta tb):=by
 refine ⟨?_⟩
 intro IP s σ H Q I h
 refine BoolOp_or (bM (ha IP s σ H _ I h) fun v s1 ⟨x,H1,I1,r1,q1⟩=>?_)
 obtain ⟨l,rfl,hz,q1⟩:=q1
 obtain ⟨t,rfl⟩:=r1
 refine PySem.P.truthy_str (by rw [aG];lia) ?_
 rw [aG]
 by_cases e:l=[]
 ·subst e
  rw [if_pos rfl] at q1
  exact hb IP _ σ H1 Q (I1.tok _) q1
 ·rw [if_neg e] at q1
  have:((l.length:Int) != 0)=true:=by
   have:l.length≠0:=fun z=>e (HP.mp z)
   simp;exact e
  rw [this]
  exact ⟨.str (S l),H1,I1.tok _,⟨t,rfl⟩,q1⟩
theorem pU:dN X (.builtin "isinstance") (fun xs H Q=>∃ y,xs=[.str y,.ty "str"]/\Q (.bl true) H):=by
 intro IP s σ H xs us Q I r h
 obtain ⟨i,rfl,q⟩:=h
 cases r with
 | cons r0 rr=>
  cases rr with
  | cons r1 rr=>
   cases rr
   obtain ⟨t,rfl⟩:=r0
   cases r1
   exact IsiPair.str_str ⟨.bl true,H,I,rfl,q⟩
theorem iP:∀ {ys:List Str} {us:List Value},K2 (ys.map V.str) us->StrsAre us ys
 | [],_,.nil=>.nil
 | n::r,_,.cons h t=>by
  obtain ⟨tk,rfl⟩:=h
  exact .cons n tk (iP t)
theorem wl (sep:List Nat) (ts:List (List Nat)):Txt.join (S sep) (ts.map S)=S (TK.jn sep ts):=by
 have go:∀ (r:List (List Nat)) (acc:List Nat),(r.map S).foldl (fun acc p=>acc++(S sep).cps++p.cps) acc.toArray=(acc++(r.map (sep++·)).flatten).toArray:=by
  intro r
  induction r with
  | nil=>intro acc;simp
  | cons t r ih=>
   intro acc
   rw [GO,List.foldl_cons]
   have:acc.toArray++(S sep).cps++(S t).cps=(acc++sep++t).toArray:=by simp [S]
   rw [this,ih]
   simp
 have fl:∀ (t:List Nat) (r:List (List Nat)),TK.jn sep (t::r)=t++(r.map (sep++·)).flatten:=by
  intro t r
  induction r generalizing t with
  | nil=>simp [TK.jn]
  | cons u r ih=>
   show t++(sep++TK.jn sep (u::r))=_
   rw [ih u]
   simp
 cases ts with
 | nil=>rfl
 | cons t r=>
  show (⟨((t::r).map S |>.drop 1).foldl (fun acc p=>acc++(S sep).cps++p.cps) (((t::r).map S).headD Str.empty).cps⟩:Str)=_
  rw [fl]
  have:=go r t
  show (⟨(r.map S).foldl (fun acc p=>acc++(S sep).cps++p.cps) t.toArray⟩:Str)=_
  rw [this]
  rfl
theorem dc:Dv X "str.join" (fun x xs H Q=>∃ sep a ts,x=.str (S sep)/\xs=[.ref a]/\KW X.K H a (ts.map fun t=>V.str (S t))/\(ts.map List.length).sum+ts.length*sep.length<=100000/\Q (.str (S (TK.jn sep ts))) H):=by
 intro IP s σ H x xs v us Q I rx rv h
 obtain ⟨sep,a,ts,rfl,rfl,hS,hz,q⟩:=h
 obtain ⟨t,rfl⟩:=rx
 obtain ⟨u,rfl,ru⟩:=rv.one
 cases ru
 obtain ⟨its,r,pl,hz2⟩:=I.list hS
 have e:(ts.map fun t=>V.str (S t))=(ts.map S).map V.str:=by rw [Hz];rfl
 rw [e] at r
 refine join_list pl.isList (ys:=ts.map S) (by simpa using iP r) ?_ fun t' k=>?_
 ·have:((ts.map S).map (·.length)).sum=(ts.map List.length).sum:=by
   rw [Hz]
   congr 1
  rw [this,GC,aG]
  lia
 ·rw [wl]
  exact ⟨.str (S (TK.jn sep ts)),H,I.tok _,⟨t',rfl⟩,q⟩
end
end L2
namespace L2
open PySem PySem.Spec PyProof.Rows
section
variable {X:Cx}
open PySem.Builtin.Str in
theorem uK:Dv X "str.split" (fun x xs H Q=>∃ a b,x=.str a/\xs=[.str b]/\(b.length == 0)=false/\a.length<=100000/\∀ p,H p=none->Q (.ref p) (aI H p (.lst ((Txt.split a b).map V.str)))):=by
 intro IP s σ H x xs v us Q I rx rv h
 obtain ⟨a,b,rfl,rfl,h0,h3,q⟩:=h
 obtain ⟨t,rfl⟩:=rx
 obtain ⟨u,rfl,ru⟩:=rv.one
 obtain ⟨t2,rfl⟩:=ru
 have sz:(100002:Nat)<=sizeLine:=by decide
 have hp:(partsBetween a (occurrences a b 0 a.length (a.length+1)) b.length).length<=100002:=by
  rw [PySem.length_partsBetween]
  have:=StrLaws.occ_length_le a b 0 a.length (a.length+1)
  lia
 cases h1:(decide (a.length < b.length) || decide (Builtin.Str.strKind a < Builtin.Str.strKind b))
 ·cases hf:(occurrences a b 0 a.length (a.length+1)).isEmpty
  ·have e1:Txt.split a b=LD a b:=by
    unfold Txt.split
    rw [h1,hf]
    rfl
   refine call_meets F.slot_str_split (typeIs_str _ _ _) F.entry_str_split (F.args_str_split_2 _ _) (meets_str_split_sep a b t t2 h1 h0 hf (by lia) (by lia)) ?_
   show PySem.wants _ _ _ { s with toks:=_,heap:=s.heap.push { cls:=.type "list",data:=.seq (strsFrom s.toks (LD a b)).toArray } }
   rw [strsFrom_eq]
   have e:=numbered_texts s.toks (LD a b)
   have v0:=Mq (numbered s.toks (LD a b))
   rw [e] at v0
   rw [e1] at q
   refine ⟨.ref s.heap.objs.size,_,I.lnew (ys:=(LD a b).map V.str) v0 (by rw [GC];unfold LD;lia),rfl,q _ (I.hok.fresh (GE _))⟩
  ·have e1:Txt.split a b=[a]:=by
    unfold Txt.split
    rw [h1,hf]
    rfl
   rw [e1] at q
   refine call_meets F.slot_str_split (typeIs_str _ _ _) F.entry_str_split (F.args_str_split_2 _ _) (meets_str_split_not_found a b t t2 h1 h0 hf) ?_
   exact ⟨.ref s.heap.objs.size,_,I.lnew (ys:=[V.str a]) (its:=[.str a t]) (t':=s.toks) (.cons ⟨t,rfl⟩ .nil) aW,rfl,q _ (I.hok.fresh (GE _))⟩
 ·have e1:Txt.split a b=[a]:=by
   unfold Txt.split
   rw [h1]
   rfl
  rw [e1] at q
  refine call_meets F.slot_str_split (typeIs_str _ _ _) F.entry_str_split (F.args_str_split_2 _ _) (meets_str_split_cannot_occur a b t t2 h1) ?_
  exact ⟨.ref s.heap.objs.size,_,I.lnew (ys:=[V.str a]) (its:=[.str a t]) (t':=s.toks) (.cons ⟨t,rfl⟩ .nil) aW,rfl,q _ (I.hok.fresh (GE _))⟩
structure NP (X:Cx) (e:Expr) (t:TE):Prop where
 run:∀ (IP:List (Addr×Obj)) (s:Shared) (σ:St) (H:Hp) (Q:VK),1<=s.toks->KQ X IP σ H s->t σ H Q->wpAny (model X.prog X.w) X.A (eval e X.env) (EP X IP σ Q) X.xe s
instance {X:Cx} {e:Expr} {t:TE}:CoeFun (NP X e t) fun _=>∀ (IP:List (Addr×Obj)) (s:Shared) (σ:St) (H:Hp) (Q:VK),1<=s.toks->KQ X IP σ H s->t σ H Q->wpAny (model X.prog X.w) X.A (eval e X.env) (EP X IP σ Q) X.xe s:=⟨NP.run⟩
inductive AJ (i:Nat) (b:Str) (c:Str) (σ:St) (H:Hp) (Q:VK):Prop
 | mk (a:_):σ[i]?=some (some (.str a))->(b == c)=false->a.length+(a.length+1)*c.length<=16777216->Q (.str (Txt.replace a b c)) H->AJ i b c σ H Q
theorem pV (i:Nat) {x b c:Str} {xp p1 p2 apos cpos:Pos} {j1 j2:Nat} (hN:X.N[i]?=some x) (hv:Dy X.env.scope x) (hd:(x == ("__debug__":Str))=false:=by decide) (hcd:(x == ("__classdict__":Str))=false:=by decide)
  (hbase:attributeBase (.Name x xp) "replace" X.env (eval (.Name x xp) X.env)=eval (.Name x xp) X.env:=by rfl)
  (hline:(apos.endLine == cpos.line)=true:=by rfl) :
  NP X (.Call (.Attribute (.Name x xp) "replace" apos) [.Constant (.str b) j1 p1,.Constant (.str c) j2 p2] [] cpos) (AJ i b c):=by
 refine ⟨?_⟩
 intro IP s σ H Q ht I h
 obtain ⟨a,e,hyz,hb,q⟩:=h
 obtain ⟨m,hn,hl⟩:=I.loc
 obtain ⟨u,r,l⟩:=hl i x _ hN e hv
 obtain ⟨t,rfl⟩:=r
 refine wpAny_Call_method_late hbase (by rfl) hline rfl ?_
 have r1:K1 (.str a) (.str a t):=⟨t,rfl⟩
 obtain ⟨h1,h2⟩:=qY (T:="str") I r1 rfl
 have ht0:s.toks≠0:=by lia
 have fin:MethodOn X.prog X.w X.A "replace" cpos (.str a t) (backTo cpos (starEach [.Constant (.str b) j1 p1,.Constant (.str c) j2 p2] X.env)) (EP X IP σ Q) X.xe s:=by
  refine ⟨"str","str.replace",G9,PySem.F.slot_str_replace,PySem.F.type_str_replace,h1,h2,?_⟩
  refine Ie rfl (Il ?_)
  refine Iv (Iw (k:=j1) (pos:=p1) (Iv (Iw (k:=j2) (pos:=p2) (Calls.spliced_nil ?_))))
  exact SC.replace ht0 (Nat.succ_ne_zero _) (fun z=>absurd z (by show s.toks≠s.toks+1;lia)) hyz hb fun t' k=>⟨.str (Txt.replace a b c),H,I.tok _,⟨t',rfl⟩,q⟩
 rcases l with ⟨hk,hm⟩|⟨hk,c,hc,hcell⟩
 ·exact wpAny_Name (wpAny_loadName_local I.ok.kind hk hn hm fin) hd
 ·rcases hk with hk|hk
  ·exact wpAny_Name (wpAny_loadName_cell I.ok.kind hk hc hcell fin) hd
  ·exact wpAny_Name (wpAny_loadName_free I.ok.kind hk hc hcell fin hcd) hd
variable {o e:Expr} {es:List Expr} {to te:TE} {t:TA} {name:Str} {apos cpos:Pos} {T id:String} {r:V->List V->Hp->VK->Prop}
theorem BJ (pa:PlainAttrs T) (slot:Slot T name id) (hty:typeOf (.builtin id)=pure (.type "method_descriptor")) (hm:Dv X id r) (ho:NP X o to) (ha:PA X (e::es) t)
  (hbase:attributeBase o name X.env (eval o X.env)=eval o X.env:=by rfl)
  (hfew:((backTo cpos (starEach (e::es) X.env)).all (fun x=>!x.1) && (backToKw cpos (keywordEach [] X.env)).all (fun x=>x.1.isSome)
   && decide ((e::es).length+([]:List Keyword).length+(if ([]:List Keyword).isEmpty then 0 else 1) < 30))=true:=by rfl)
  (hline:(apos.endLine == cpos.line)=true:=by rfl) (hs:starEach (e::es) X.env=(false,eval e X.env)::starEach es X.env:=by rfl) (hplain:(backTo cpos (starEach es X.env)).any (·.1)=false:=by rfl) :
  NP X (.Call (.Attribute o name apos) (e::es) [] cpos) (Gf X.K T r to t):=by
 refine ⟨?_⟩
 intro IP s σ H Q hz I h
 refine wpAny_Call_method_late hbase hfew hline rfl (bM (ho IP s σ H _ hz I h) fun v s1 ⟨x,H1,I1,r1,ty,q1⟩=>?_)
 obtain ⟨h1,h2⟩:=qY I1 r1 ty
 refine ⟨T,id,pa,slot,hty,h1,h2,?_⟩
 have hA:=ha cpos IP s1 σ H1 _ I1 q1
 rw [hs] at hA ⊢
 refine Ie (by show (false || (backTo cpos (starEach es X.env)).any (·.1))=false;rw [hplain]<;>rfl) (Il ?_)
 exact bM hA fun us s2 ⟨vs,H2,I2,r2,q2⟩=>hm IP s2 σ H2 x vs v us Q I2 r1 r2 q2
end
theorem pW (c d:Nat):∀ LD:List Str,(Str.join ⟨#[c]⟩ LD).length=(Str.join ⟨#[d]⟩ LD).length
 | []=>rfl
 | [p]=>rfl
 | p::q::r=>by
  have ih:=pW c d (q::r)
  show (p++⟨#[c]⟩++Str.join ⟨#[c]⟩ (q::r)).cps.size=(p++⟨#[d]⟩++Str.join ⟨#[d]⟩ (q::r)).cps.size
  have ih':(Str.join ⟨#[c]⟩ (q::r)).cps.size=(Str.join ⟨#[d]⟩ (q::r)).cps.size:=ih
  simp only [Str.cps_append,Array.size_append]
  rw [ih']
  rfl
theorem wm (x:Str) (c d:Nat):(Txt.replace x ⟨#[c]⟩ ⟨#[d]⟩).length=x.length:=by
 rw [StrLaws.replace_one,pW d c,StrLaws.join_split]
end L2
namespace L2
open PySem PySem.Spec PyProof.Rows
section
variable {X:Cx}
theorem kX {T:String}:dN X (.builtin "isinstance") (fun xs H Q=>∃ x t b,xs=[x,.ty T]/\jq X.K H x t/\PySem.W.kitOne X.K t (.type T)=some b/\Q (.bl b) H):=by
 intro IP s σ H xs us Q I r h
 obtain ⟨x,t,b,rfl,ty,e,q⟩:=h
 cases r with
 | cons r0 rr=>
  cases rr with
  | cons r1 rr=>
   cases rr
   cases r1
   exact uF I r0 ty e fun tk=>⟨.bl b,H,I.tok _,rfl,q⟩
theorem wn:fR X (binaryOp .FloorDiv) (rI (fun _ j=>0 < j/\j < 18446744073709551616) fun i j=>.int (i / j)):=Du fun i j _ _ _ _ _ hc q=>by
 have h1:(0:Int) < j:=hc.1
 have h2:j < 18446744073709551616:=hc.2
 refine floordiv_int (by lia) (by rw [Int.fdiv_eq_ediv_of_nonneg i (by lia)];exact q) (.inl (PyProof.noPylong_of_log2 ?_))
 have h3:j.natAbs≠0:=by lia
 have:j.natAbs.log2 < 64:=(Nat.log2_lt h3).mpr (by show j.natAbs < 2 ^ 64;lia)
 lia
def Fa (l:List Nat):It:=⟨fun i _=>i < l.length,fun i H y H'=>H'=H/\∃ h:i < l.length,y=.str (S [l[i]]),fun i _=>l.length<=i⟩
variable {tg:Expr} {K:ZF} {w:World} {P:Program}
theorem q0 (l:List Nat) (t:Tok) (it:Addr):pF P w K tg (Fa l) [it] it (fun i h=>h.IsStrIter it "str_ascii_iterator" (S l) t i) where
 mem:=by simp
 obj:=fun i h st b hb=>by
  have e:b=it:=by simpa using hb
  subst e
  obtain ⟨o,e,c,d⟩:=st
  exact ⟨o,e,fun v z=>by rw [d] at z;cases z⟩
 keep:=fun i h h' st k=>let ⟨o,ho,r⟩:=st;⟨o,k it (by simp) o ho,r⟩
 item:=by
  intro X hP hw hK hc i IP s σ H E I hf st hg
  subst hP hw hK
  have hg':i < l.length:=hg
  obtain ⟨f0,f1,f2,f3,f4,f5⟩:=hf it (by simp)
  refine wpAny_pyNext_ascii_item st (c:=l[i]) (by show l.toArray[i]?=_;simp [hg']) fun h' st' sb=>?_
  have I1:KQ X IP σ H { s with heap:=h',toks:=s.toks+1 }:=I.turned (fun b o hb e=>(sb.2 b hb).trans e) f0 f1 f3 f4 f5
  obtain ⟨o,e,c,d⟩:=id st'
  exact ⟨_,rfl,pG (s:={ s with heap:=h',toks:=s.toks+1 }) e c d (by decide) ⟨.str (S [l[i]]),H,I1,⟨_,rfl⟩,⟨rfl,hg',rfl⟩,st',fun b hb=>(hf b hb).1⟩⟩
 done:=by
  intro X hP hw hK hc i IP s σ H E I hf st hg
  subst hP hw hK
  have hg':l.length<=i:=hg
  obtain ⟨f0,f1,f2,f3,f4,f5⟩:=hf it (by simp)
  exact wpAny_pyNext_ascii_end (I.ok.hd hc) st (by show l.toArray[i]?=_;simp [hg']) fun h' eb=>⟨rfl,I.turned (t':=s.toks) (fun b o hb e=>eb b o hb e) f0 f1 f3 f4 f5⟩
 self:=fun _ _ _ _ _ st h=>wpAny_pyIter_striter_ascii st h
theorem uL (l:List Nat) (t:Tok) (it:Addr):pF P w K tg (Fa l) [it] it (fun i h=>h.IsStrIter it "str_iterator" (S l) t i) where
 mem:=by simp
 obj:=fun i h st b hb=>by
  have e:b=it:=by simpa using hb
  subst e
  obtain ⟨o,e,c,d⟩:=st
  exact ⟨o,e,fun v z=>by rw [d] at z;cases z⟩
 keep:=fun i h h' st k=>let ⟨o,ho,r⟩:=st;⟨o,k it (by simp) o ho,r⟩
 item:=by
  intro X hP hw hK hc i IP s σ H E I hf st hg
  subst hP hw hK
  have hg':i < l.length:=hg
  obtain ⟨f0,f1,f2,f3,f4,f5⟩:=hf it (by simp)
  refine wpAny_pyNext_wide_item st (c:=l[i]) (by show l.toArray[i]?=_;simp [hg']) fun h' st' sb=>?_
  have I1:KQ X IP σ H { s with heap:=h',toks:=s.toks+1 }:=I.turned (fun b o hb e=>(sb.2 b hb).trans e) f0 f1 f3 f4 f5
  obtain ⟨o,e,c,d⟩:=id st'
  exact ⟨_,rfl,pG (s:={ s with heap:=h',toks:=s.toks+1 }) e c d (by decide) ⟨.str (S [l[i]]),H,I1,⟨_,rfl⟩,⟨rfl,hg',rfl⟩,st',fun b hb=>(hf b hb).1⟩⟩
 done:=by
  intro X hP hw hK hc i IP s σ H E I hf st hg
  subst hP hw hK
  have hg':l.length<=i:=hg
  obtain ⟨f0,f1,f2,f3,f4,f5⟩:=hf it (by simp)
  exact wpAny_pyNext_wide_end (I.ok.hd hc) st (by show l.toArray[i]?=_;simp [hg']) fun h' eb=>⟨rfl,I.turned (t':=s.toks) (fun b o hb e=>eb b o hb e) f0 f1 f3 f4 f5⟩
 self:=fun _ _ _ _ _ st h=>wpAny_pyIter_striter_wide st h
inductive AK (R:It->Hp->Prop) (x:V) (H1:Hp):Prop
 | mk (l:_):x=.str (S l)->R (Fa l) H1->AK R x H1
def FD (tl:TE):TI:=fun σ H R=>tl σ H fun x H1=>AK R x H1
theorem rf {tg l:Expr} {tl:TE} (hl:PE X l tl):PI X tg l (FD tl):=by
 refine ⟨?_⟩
 intro IP s σ H R I h
 refine bM (hl IP s σ H _ I h) fun v s1 ⟨x,H1,I1,r1,q1⟩=>?_
 obtain ⟨l,e,q⟩:=q1
 subst e
 obtain ⟨t,rfl⟩:=r1
 have fp:∀ b∈[s1.heap.objs.size],mx X IP H1 b:=fun b hb=>by
  have e:b=s1.heap.objs.size:=by simpa using hb
  subst e
  exact I1.fpOk (GE _) (I1.hok.fresh (GE _))
 cases ha:(S l).cps.all (· < 128)
 ·exact wpAny_pyIter_wide ha ⟨s1.heap.objs.size,[s1.heap.objs.size],_,_,H1,rfl,I1.kept (t':=s1.toks) fun b o e=>GI _ e,uL l t _,⟨_,GZ _ rfl,rfl,rfl⟩,fp,q⟩
 ·exact wpAny_pyIter_ascii ha ⟨s1.heap.objs.size,[s1.heap.objs.size],_,_,H1,rfl,I1.kept (t':=s1.toks) fun b o e=>GI _ e,q0 l t _,⟨_,GZ _ rfl,rfl,rfl⟩,fp,q⟩
theorem rh {l:List Nat} {g:TG} {tf:TT} {te:TE} {ix:List (Option Nat)} {σ:St} {H:Hp} {Q:VK} (Pv:Nat->List V->Hp->Prop) (h0:Pv 0 [] H)
  (hl:∀ i ys H,i<=l.length->Pv i ys H->ys.length<=sizeLine)
  (hs:∀ i ys H (h:i < l.length),Pv i ys H->g (.str (S [l[i]])) (qN ix σ) H fun σ2 H2=>L9 (qN ix σ) σ2/\tf σ2 H2 fun b H3=>if b=true then te σ2 H3 fun y H4=>Nx Pv l.length i (ys++[y]) H4 else Nx Pv l.length i ys H3)
  (hd:∀ ys H,Pv l.length ys H->∀ D,H D=none->Q (.ref D) (aI H D (.lst ys))) :
  wg (Fa l) g tf te ix σ H Q:=by
 refine ⟨fun i m ys H=>m=l.length - i/\i<=l.length/\Pv i ys H,⟨l.length,by simp,Hj _,h0⟩,?_⟩
 rintro i m ys H ⟨rfl,hi,p⟩
 have hz:=hl i ys H hi p
 by_cases Je:i < l.length
 ·refine .inr ⟨Je,hz,fun x H' y=>?_⟩
  obtain ⟨e,h,y⟩:=y
  subst e y
  exact hs i ys _ Je p
 ·have e:i=l.length:=by lia
  subst e
  exact .inl ⟨GE _,hz,hd ys H p⟩
theorem iQ (hc:X.calm=true):dN X (.builtin "all") (fun xs H Q=>∃ (p:Addr) (bs:List Bool),xs=[.ref p]/\KW X.K H p (bs.map V.bl)/\Q (.bl (bs.all id)) H):=by
 intro IP s σ H xs us Q I r h
 obtain ⟨p,bs,rfl,hS,q⟩:=h
 obtain ⟨u,rfl,rx⟩:=gX r
 cases rx
 obtain ⟨its,rv,pl,hz⟩:=I.list hS
 have IQ:=rv.length
 rw [GC] at IQ
 have Jb:p≠s.heap.objs.size:=by
  obtain ⟨o,ho,_⟩:=pl.isList
  exact Hq (GT ho)
 refine call_all_walk (wpAny_pyIter_list pl.isList ?_)
 refine ⟨s.heap.objs.size,_,_,_,_,_,fun i=>bs.getD i true,rfl,Walks.list (A:=X.A.in1) (I.ok.hd hc) s.heap.objs.size p Jb its.toArray,⟨⟨_,GZ _ rfl,rfl,rfl⟩,pl.isList.at fun o e=>GI _ e⟩,?_,?_⟩
 ·intro i v s' Q' E' hv hq
  have hv':its[i]?=some v:=by simpa using hv
  have Je:i < its.length:=(GA.mp hv').1
  have hb:i < bs.length:=by lia
  obtain ⟨u,hu,ru⟩:=rv.get (i:=i) (x:=.bl bs[i]) (by simp [hb])
  rw [hv'] at hu
  cases hu
  cases ru
  refine wpAny_truthy_bool ?_
  have e:bs.getD i true=bs[i]:=by simp [List.getD,hb]
  dsimp only at hq
  rw [e] at hq
  exact hq
 ·intro h' tk hk
  have e:(List.range its.toArray.size).all (fun i=>bs.getD i true)=bs.all id:=by
   rw [GW,<-IQ,HG,Ht,Ht]
   constructor
   ·intro z x hx
    obtain ⟨i,hi,e⟩:=List.getElem_of_mem hx
    have:=z i (HE.mpr hi)
    rw [show bs.getD i true=bs[i] by simp [List.getD,hi],e] at this
    exact this
   ·intro z i hi
    have hi':=HE.mp hi
    rw [show bs.getD i true=bs[i] by simp [List.getD,hi']]
    exact z _ (Hv hi')
  rw [e]
  exact ⟨.bl _,H,I.kept fun b o e=>hk b o (fun z=>absurd (GT e) (by rw [G8.mp z];exact Ic _)) (GI _ e),rfl,q⟩
end
section
variable {κ:Type} [DecidableEq κ]
def bh (kvs:List (κ×V)) (k:κ):Option V:=(kvs.find? fun kv=>decide (kv.1=k)).map (·.2)
def bu (kvs:List (κ×V)) (k:κ) (v:V):List (κ×V):=
 if (kvs.any fun kv=>decide (kv.1=k))=true then kvs.map (fun kv=>if kv.1=k then (kv.1,v) else kv) else kvs++[(k,v)]
theorem pX {k:κ}:bh ([]:List (κ×V)) k=none:=rfl
variable {p:κ×V}
theorem cF {r:List (κ×V)} {k:κ} (e:p.1=k):bh (p::r) k=some p.2:=by simp [bh,Ij,e]
theorem ci {r:List (κ×V)} {k:κ} (e:¬ p.1=k):bh (p::r) k=bh r k:=by simp [bh,Ij,e]
theorem fY (k:κ):∀ kvs:List (κ×V),(kvs.any fun kv=>decide (kv.1=k))=(bh kvs k).isSome
 | []=>rfl
 | p::r=>by
  rw [IH]
  by_cases e:p.1=k
  ·simp only [cF e,decide_eq_true e,Bool.true_or,Option.isSome_some]
  ·rw [ci e,decide_eq_false e,Bool.false_or];exact fY k r
theorem pY (k j:κ) (y:V):∀ kvs:List (κ×V),bh (kvs.map fun kv=>if kv.1=k then (kv.1,y) else kv) j=(bh kvs j).map fun x=>if j=k then y else x
 | []=>rfl
 | p::r=>by
  have ih:=pY k j y r
  rw [GO]
  by_cases h:p.1=k
  ·rw [if_pos h]
   by_cases e:p.1=j
   ·rw [cF (p:=(p.1,y)) e,cF e,IK,if_pos (e.symm.trans h)]
   ·rw [ci (p:=(p.1,y)) e,ci e,ih]
  ·rw [if_neg h]
   by_cases e:p.1=j
   ·rw [cF (p:=p) e,cF e,IK,if_neg (fun z=>h (e.trans z))]
   ·rw [ci (p:=p) e,ci e,ih]
theorem mS (k j:κ) (y:V):∀ kvs:List (κ×V),bh kvs k=none->bh (kvs++[(k,y)]) j=if j=k then some y else bh kvs j
 | [],_=>by
  by_cases e:k=j
  ·rw [if_pos e.symm];exact cF (p:=(k,y)) e
  ·rw [if_neg (fun z=>e z.symm)];exact ci (p:=(k,y)) e
 | p::r,hn=>by
  rw [Ho]
  have hk:¬ p.1=k:=fun z=>by rw [cF z] at hn;cases hn
  rw [ci hk] at hn
  have ih:=mS k j y r hn
  by_cases e:p.1=j
  ·rw [cF e,cF e,if_neg (fun z=>hk (e.trans z))]
  ·rw [ci e,ci e,ih]
theorem kY (kvs:List (κ×V)) (k j:κ) (y:V):bh (bu kvs k y) j=if j=k then some y else bh kvs j:=by
 unfold bu
 by_cases a:(kvs.any fun kv=>decide (kv.1=k))=true
 ·rw [if_pos a,pY]
  rw [fY] at a
  by_cases e:j=k
  ·obtain ⟨x,hx⟩:=Option.isSome_iff_exists.mp a
   rw [if_pos e,e,hx,IK,if_pos rfl]
  ·rw [if_neg e]
   cases bh kvs j with
   | none=>rfl
   | some x=>rw [IK,if_neg e]
 ·rw [if_neg a]
  refine mS k j y kvs ?_
  rw [fY] at a
  cases q:bh kvs k with
  | none=>rfl
  | some x=>rw [q] at a;exact (a rfl).elim
theorem fZ (kvs:List (κ×V)) (k:κ) (v:V):(bu kvs k v).length<=kvs.length+1:=by
 unfold bu
 split
 ·rw [GC];lia
 ·rw [Gy,GB,GL];lia
variable {kvs:List (κ×V)}
theorem pZ {k:κ} (v:V) (h:bh kvs k=none):bu kvs k v=kvs++[(k,v)]:=by
 unfold bu
 rw [fY,h]
 exact if_neg (by decide)
theorem LB.isSome_eq {o:Option V} {u:Option Value} (r:LB o u):o.isSome=u.isSome:=by
 cases o with
 | none=>cases u with
  | none=>rfl
  | some _=>exact (show False from r).elim
 | some _=>cases u with
  | none=>exact (show False from r).elim
  | some _=>rfl
theorem KV.val {vs:List (κ×Value)} (r:KV kvs vs) (k:κ):LB (bh kvs k) (valueAt vs k):=by
 unfold KV at r
 induction r with
 | nil=>exact True.intro
 | @cons p q ps qs h t ih=>
  obtain ⟨h1,h2⟩:=h
  by_cases e:p.1=k
  ·have e':q.1=k:=h1.symm.trans e
   have b:valueAt (q::qs) k=some q.2:=by simp [valueAt,Ij,e']
   rw [cF e,b];exact h2
  ·have e':¬ q.1=k:=fun z=>e (h1.trans z)
   have b:valueAt (q::qs) k=valueAt qs k:=by simp [valueAt,Ij,e']
   rw [ci e,b];exact ih
theorem KV.any {vs:List (κ×Value)} (r:KV kvs vs) (k:κ):(kvs.any fun kv=>decide (kv.1=k))=vs.any fun kv=>decide (kv.1=k):=by
 unfold KV at r
 induction r with
 | nil=>rfl
 | cons h t ih=>rw [IH,IH,ih,h.1]
variable {u:Value} {y:V}
theorem KV.repl {vs:List (κ×Value)} (r:KV kvs vs) (k:κ) (ry:K1 y u) :
  KV (kvs.map fun kv=>if kv.1=k then (kv.1,y) else kv) (vs.map fun kv=>if kv.1=k then (kv.1,u) else kv):=by
 unfold KV at r ⊢
 induction r with
 | nil=>exact .nil
 | @cons p q ps qs h t ih=>
  rw [GO,GO]
  refine .cons ?_ ih
  obtain ⟨h1,h2⟩:=h
  by_cases e:p.1=k
  ·rw [if_pos e,if_pos (h1.symm.trans e)];exact ⟨h1,ry⟩
  ·rw [if_neg e,if_neg (fun z=>e (h1.trans z))];exact ⟨h1,h2⟩
theorem KV.put {vs:List (κ×Value)} (r:KV kvs vs) (k:κ) (ry:K1 y u):KV (bu kvs k y) (stored vs k u):=by
 unfold bu stored
 rw [r.any k]
 by_cases e:(vs.any fun kv=>decide (kv.1=k))=true
 ·rw [if_pos e,if_pos e];exact r.repl k ry
 ·rw [if_neg e,if_neg e];exact Paired.snoc r ⟨rfl,ry⟩
theorem KV.length {vs:List (κ×Value)} (r:KV kvs vs):kvs.length=vs.length:=Paired.length r
end
variable {u:Value} {w:World} {P:Program}
theorem mT {k:cE} (r:K1 (kV k) u):(cA P w).is k u=true:=by
 cases k with
 | inl i=>obtain ⟨t,e⟩:=(show ∃ t,u=Value.int i t from r);subst e;exact pA P w i t
 | inr x=>obtain ⟨t,e⟩:=(show ∃ t,u=Value.str x t from r);subst e;exact pB P w x t
theorem mU:∀ {ks:List cE} {us:List Value},K2 (ks.map kV) us->ItemsAre (cA P w) ks us
 | [],_,r=>by rw [HM] at r;cases r;exact .nil
 | k::ks,_,r=>by
  rw [GO] at r
  cases r with
  | cons h t=>exact .cons (mT h) (mU t)
abbrev KT (H:Hp):List (List cE×V)->List (List cE×Addr×Value)->Prop:=Paired fun p q=>p.1=q.1/\H q.2.1=some (.tup (p.1.map kV))/\K1 p.2 q.2.2
variable {xs:List (List cE×Addr×Value)} {kvs:List (List cE×V)} {H:Hp}
theorem KT.val (r:KT H kvs xs) (k:List cE):LB (bh kvs k) ((atKey xs k).map (·.2)):=by
 induction r with
 | nil=>exact True.intro
 | @cons p q ps qs h t ih=>
  obtain ⟨h1,_,h2⟩:=h
  by_cases e:p.1=k
  ·have e':q.1=k:=h1.symm.trans e
   have b:atKey (q::qs) k=some q.2:=by simp [atKey,Ij,e']
   rw [cF e,b];exact h2
  ·have e':¬ q.1=k:=fun z=>e (h1.trans z)
   have b:atKey (q::qs) k=atKey qs k:=by simp [atKey,Ij,e']
   rw [ci e,b];exact ih
variable {y:V}
theorem KT.repl (r:KT H kvs xs) (k:List cE) (ry:K1 y u) :
  KT H (kvs.map fun kv=>if kv.1=k then (kv.1,y) else kv) (xs.map (putAt k u)):=by
 induction r with
 | nil=>exact .nil
 | @cons p q ps qs h t ih=>
  rw [GO,GO]
  refine .cons ?_ ih
  obtain ⟨h1,h2,h3⟩:=h
  unfold putAt
  by_cases e:p.1=k
  ·rw [if_pos e,if_pos (h1.symm.trans e)];exact ⟨h1,h2,ry⟩
  ·rw [if_neg e,if_neg (fun z=>e (h1.trans z))];exact ⟨h1,h2,h3⟩
variable {b:Addr}
theorem KT.put (r:KT H kvs xs) (k:List cE) (hb:H b=some (.tup (k.map kV))) (ry:K1 y u) :
  KT H (bu kvs k y) (storedH xs k b u):=by
 have e:(kvs.any fun kv=>decide (kv.1=k))=(atKey xs k).isSome:=by
  rw [fY,(r.val k).isSome_eq,Option.isSome_map]
 unfold bu storedH
 rw [e]
 by_cases q:(atKey xs k).isSome=true
 ·rw [if_pos q,if_pos q];exact r.repl k ry
 ·rw [if_neg q,if_neg q];exact Paired.snoc r ⟨rfl,hb,ry⟩
theorem KT.keeps {H H':Hp} (r:KT H kvs xs) (ht:∀ b ys,H b=some (.tup ys)->H' b=some (.tup ys)):KT H' kvs xs:=
 Paired.mapP r fun _ _ z=>⟨z.1,ht _ _ z.2.1,z.2.2⟩
section
variable {P:Program} {w:World} {H:Hp} {h:Heap} {a:Addr}
theorem AL {u:HO} (ok:LC P w H h) (e:Rd H a u):K6 P w H h a u:=e.ok ok
theorem p8 {kvs:List (cE×V)} (ok:LC P w H h) (e:Rd H a (.dK kvs)):kvs.length<=sizeLine/\(a == sysModules)=false/\∃ vs,KV kvs vs/\h.DictOf (cA P w) a vs:=
 show K6 P w H h a (.dK kvs) from AL ok e
theorem wo {kvs:List (cE×V)} (ok:LC P w H h) (e:H a=some (.dK kvs)):kvs.length<=sizeLine/\(a == sysModules)=false/\∃ vs,KV kvs vs/\h.DictOf (cA P w) a vs:=p8 ok (.inl e)
theorem kZ {ks:List cE} (ok:LC P w H h) (e:H a=some (.tup (ks.map kV))):(tupleKind (cA P w)).is h ks a:=by
 obtain ⟨_,its,r,o,h1,h2,n,h3⟩:=(show K6 P w H h a (.tup (ks.map kV)) from ok a _ e)
 exact ⟨o,its.toArray,n,h1,(Prod.mk.inj h2).1,h3,by simpa using mU r⟩
theorem p9 (ok:LC P w H h) (e:Rd H a (.dT kvs)):kvs.length<=sizeLine/\(a == sysModules)=false /\
  ∃ xs,KT H kvs xs/\h.DictOfH (tupleKind (cA P w)) a xs:=by
 obtain ⟨z,y,xs,r,o,es,ep,h1,h2,h3,h4,h5⟩:=(show K6 P w H h a (.dT kvs) from AL ok e)
 refine ⟨z,y,xs,r,o,es,ep,h1,h2,h3,h4,fun x hx=>?_,h5⟩
 have all:∀ {l:List (List cE×V)} {m:List (List cE×Addr×Value)},KT H l m->∀ x∈m,(tupleKind (cA P w)).is h x.1 x.2.1:=by
  intro l m q
  induction q with
  | nil=>intro x hx;exact nomatch hx
  | @cons p q ps qs hq t ih=>
   intro x hx
   rcases GF.mp hx with e|hx
   ·subst e
    exact kZ ok (by rw [<-hq.1];exact hq.2.1)
   ·exact ih x hx
 exact all r x hx
theorem D3 (ok:LC P w H h) (e:H a=some (.dT kvs)):kvs.length<=sizeLine/\(a == sysModules)=false /\
  ∃ xs,KT H kvs xs/\h.DictOfH (tupleKind (cA P w)) a xs:=p9 ok (.inl e)
end
def Li (H:Hp) (a:Addr) (y:V) (r:Option V):Prop:=
 (∃ kvs k,Rd H a (.dK kvs)/\y=kV k/\r=bh kvs k)\/∃ kvs k b,Rd H a (.dT kvs)/\y=.ref b/\H b=some (.tup (k.map kV))/\r=bh kvs k
def LA (H:Hp) (a:Addr) (y v:V) (H':Hp):Prop:=
 (∃ kvs k,H a=some (.dK kvs)/\y=kV k/\kvs.length < sizeLine/\H'=aI H a (.dK (bu kvs k v))) ∨
 ∃ kvs k b,H a=some (.dT kvs)/\y=.ref b/\H b=some (.tup (k.map kV))/\kvs.length < sizeLine/\H'=aI H a (.dT (bu kvs k v))
variable {a:Addr}
theorem Li.k {kvs:List (cE×V)} {k:cE} (e:H a=some (.dK kvs)):Li H a (kV k) (bh kvs k):=.inl ⟨kvs,k,.inl e,rfl,rfl⟩
theorem Li.t {k:List cE} (e:H a=some (.dT kvs)) (eb:H b=some (.tup (k.map kV))):Li H a (.ref b) (bh kvs k):=.inr ⟨kvs,k,b,.inl e,rfl,eb,rfl⟩
variable {v:V}
theorem LA.k {kvs:List (cE×V)} {k:cE} (e:H a=some (.dK kvs)) (hl:kvs.length < sizeLine):LA H a (kV k) v (aI H a (.dK (bu kvs k v))):=.inl ⟨kvs,k,e,rfl,hl,rfl⟩
theorem LA.t {k:List cE} {v:V} (e:H a=some (.dT kvs)) (eb:H b=some (.tup (k.map kV))) (hl:kvs.length < sizeLine) :
  LA H a (.ref b) v (aI H a (.dT (bu kvs k v))):=.inr ⟨kvs,k,b,e,rfl,eb,hl,rfl⟩
section
variable {X:Cx} {IP:List (Addr×Obj)} {σ:St} {H:Hp} {s:Shared} {a:Addr} {y v:V} {u r:Value} {o:Option V} {A:Around} {E:Value->Shared->Prop}
theorem KQ.big (I:KQ X IP σ H s):sysModules < s.heap.objs.size:=by
 have h:mainGlobals < s.heap.objs.size:=(I.mod.glob.keeps I.bk).lt
 exact Nat.lt_trans (by decide) h
variable {Q:Value->Shared->Prop}
theorem uM (hu:A.units+1 < cLine) (I:KQ X IP σ H s) (g:Li H a y (some v)) (ry:K1 y u) (h:∀ w' s',KQ X IP σ H s'->K1 v w'->Q w' s') :
  wpAny (model X.prog X.w) A (getItem (.ref a) u) Q E s:=by
 rcases g with ⟨kvs,k,e,ey,l⟩|⟨kvs,k,b,e,ey,eb,l⟩
 ·subst ey
  obtain ⟨z,hd,vs,rel,dd⟩:=p8 I.hok e
  obtain ⟨w',hw,rw'⟩:=LB.some_of (v:=v) (o:=valueAt vs k) (by rw [l];exact rel.val k)
  exact wpAny_getItem_of (mT ry) dd.mapOf hw (h w' _ (I.tok _) rw')
 ·subst ey
  cases (show u=Value.ref b from ry)
  obtain ⟨z,hd,xs,rel,dd⟩:=p9 I.hok e
  obtain ⟨w',hw,rw'⟩:=LB.some_of (v:=v) (o:=(atKey xs k).map (·.2)) (by rw [l];exact rel.val k)
  obtain ⟨p,hp,hp2⟩:=Option.map_eq_some_iff.mp hw
  refine wpAny_getItem_heap (tupleKind_room_in1 hu) (kZ I.hok eb) dd hp ?_
  rw [hp2]
  exact h w' _ (I.tok _) rw'
theorem FE (hu:A.units+1 < cLine) (I:KQ X IP σ H s) (g:Li H a y o) (ry:K1 y u) (h:∀ s',KQ X IP σ H s'->Q (.bool o.isSome) s') :
  wpAny (model X.prog X.w) A (compareOp .In u (.ref a)) Q E s:=by
 rcases g with ⟨kvs,k,e,ey,l⟩|⟨kvs,k,b,e,ey,eb,l⟩
 ·subst ey
  obtain ⟨z,hd,vs,rel,dd⟩:=p8 I.hok e
  refine wpAny_in_of (mT ry) hd dd.mapOf ?_
  rw [<-(rel.val k).isSome_eq,<-l]
  exact h _ (I.tok _)
 ·subst ey
  cases (show u=Value.ref b from ry)
  obtain ⟨z,hd,xs,rel,dd⟩:=p9 I.hok e
  refine wpAny_in_heap (tupleKind_room_in1 hu) (kZ I.hok eb) hd dd ?_
  have q:=(rel.val k).isSome_eq
  rw [Option.isSome_map] at q
  rw [<-q,<-l]
  exact h _ (I.tok _)
theorem y4 (hu:A.units+1 < cLine) (I:KQ X IP σ H s) (g:Li H a y o) (ry:K1 y u) (h:∀ s',KQ X IP σ H s'->Q (.bool (!o.isSome)) s') :
  wpAny (model X.prog X.w) A (compareOp .NotIn u (.ref a)) Q E s:=by
 rcases g with ⟨kvs,k,e,ey,l⟩|⟨kvs,k,b,e,ey,eb,l⟩
 ·subst ey
  obtain ⟨z,hd,vs,rel,dd⟩:=p8 I.hok e
  refine wpAny_notIn_of (mT ry) hd dd.mapOf ?_
  rw [<-(rel.val k).isSome_eq,<-l]
  exact h _ (I.tok _)
 ·subst ey
  cases (show u=Value.ref b from ry)
  obtain ⟨z,hd,xs,rel,dd⟩:=p9 I.hok e
  refine wpAny_notIn_heap (tupleKind_room_in1 hu) (kZ I.hok eb) hd dd ?_
  have q:=(rel.val k).isSome_eq
  rw [Option.isSome_map] at q
  rw [<-q,<-l]
  exact h _ (I.tok _)
theorem nQ {h':Heap} {t':Nat} {ob:HO} (I:KQ X IP σ H s) (mu:Dx (H a)) (hs:Heap.SameBut a s.heap h') (he:∃ q,h'.get? a=some q) (new:K6 X.prog X.w (aI H a ob) h' a ob) :
  KQ X IP σ (aI H a ob) { s with heap:=h',toks:=t' }:=
 I.write (x:=a) (e:=a) mu (.inl rfl) (fun b q hb z=>(hs.2 b hb).trans z) he new
theorem rj {H':Hp} {h':Heap} {kvs:List (cE×V)} {vs:List (cE×Value)} (z:kvs.length<=sizeLine) (hd:(a == sysModules)=false) (rel:KV kvs vs) (dd:h'.DictOf (cA P w) a vs) :
  K6 P w H' h' a (.dK kvs):=⟨z,hd,vs,rel,dd⟩
theorem uN {H':Hp} {Q:Unit->Shared->Prop} (hu:A.units+1 < cLine) (I:KQ X IP σ H s) (g:LA H a y v H') (ry:K1 y u) (rv:K1 v r) (h:∀ s',KQ X IP σ H' s'->Q () s') :
  wpAny (model X.prog X.w) A (setItem (.ref a) u r) Q E s:=by
 rcases g with ⟨kvs,k,e,ey,l,eH⟩|⟨kvs,k,b,e,ey,eb,l,eH⟩
 ·subst ey eH
  obtain ⟨z,hd,vs,rel,dd⟩:=wo I.hok e
  have hz:vs.length<=sizeLine:=by rw [<-rel.length];exact z
  have hl:(bu kvs k v).length<=sizeLine:=by have:=fZ kvs k v;lia
  refine wpAny_setItem_pairs (hsz:=hz) (mT ry) dd fun h' dd' hs=>h _ ?_
  have he:∃ q,h'.get? a=some q:=let ⟨q,_,_,hq,_⟩:=dd';⟨q,hq⟩
  exact nQ I (by rw [e];exact True.intro) hs he (rj hl hd (rel.put k rv) dd')
 ·subst ey eH
  cases (show u=Value.ref b from ry)
  obtain ⟨z,hd,xs,rel,dd⟩:=D3 I.hok e
  have hz:xs.length<=sizeLine:=by rw [<-Paired.length rel];exact z
  have hl:(bu kvs k v).length<=sizeLine:=by have:=fZ kvs k v;lia
  refine wpAny_setItem_heap (hsz:=hz) (tupleKind_room_in1 hu) (kZ I.hok eb) dd fun h' dd' hs=>h _ ?_
  obtain ⟨q,es,ep,hq,h2,h3,h4,_,h5⟩:=dd'
  refine nQ I (by rw [e];exact True.intro) hs ⟨q,hq⟩ ⟨hl,hd,_,(rel.put k eb rv).keeps fun c ys ec=>?_,q,es,ep,hq,h2,h3,h4,h5⟩
  rw [aw (Dw ec e (fun z=>nomatch z))]
  exact ec
end
def D4 (i:Expr):Prop:=∀ ov iv,subscripted i false ov iv=operate [ov,iv] (getItem ov iv)
theorem y6 {prog:Program} {w:World} {A:Around} {E:Value->Shared->Prop} {s:Shared} {env:Env} {value slice:Expr} {pos:Pos} {T id:String} {Q:Value->Shared->Prop}
  (hl:typeLookup (.type T) "__getitem__"=pure (some (.builtin id))) (hs:D4 slice)
  (h:wpAny (model prog w) A (eval value env) (fun o s₁=>wpAny (model prog w) A (eval slice env) (fun i s₂=>s₂.TypeIs o T/\wpAny (model prog w) A (getItem o i) Q E s₂) E s₁) E s) :
  wpAny (model prog w) A (eval (.Subscript value slice pos) env) Q E s:=by
 refine Subscript_ (wpAny_mono h (fun o s₁ h₁=>wpAny_mono h₁ (fun i s₂ h₂=>?_) fun _ _ x=>x) fun _ _ x=>x)
 obtain ⟨hT,h₂⟩:=h₂
 unfold subscriptTail
 refine wpAny_bind ?_
 rw [getitemInPython_of_ne hT.not_modules]
 refine wpAny_bind (wpAny_specialOf hT hl ?_)
 have fin:wpAny (model prog w) A (subscripted slice false o i) (fun r s₃=>wpAny (model prog w) A (letTemporaryGo value o r >>= fun _=>pure r) Q E s₃) E s₂:=by
  rw [hs o i]
  exact wpAny_operating (wpAny_mono h₂ (fun r s₃ h₃=>wpAny_bind (wpAny_letTemporaryGo (wpAny_pure h₃))) fun _ _ x=>x)
 first
  | exact wpAny_pure (wpAny_bind fin)
  | exact wpAny_bind (wpAny_pure (wpAny_bind fin))
  | exact wpAny_bind fin
variable {σ:St} {X:Cx}
theorem qa {IP:List (Addr×Obj)} {s:Shared} {o:Option V} (I:KQ X IP σ H s) (g:Li H a y o):s.TypeIs (.ref a) "dict":=by
 rcases g with ⟨kvs,k,e,_,_⟩|⟨kvs,k,b,e,_,_,_⟩
 ·obtain ⟨_,_,vs,_,dd⟩:=p8 I.hok e
  exact dd.typeIs
 ·obtain ⟨_,_,xs,_,dd⟩:=p9 I.hok e
  exact dd.typeIs
inductive wq (Q:VK) (x:V) (y:V) (H2:Hp):Prop
 | mk (a v:_):x=.ref a->Li H2 a y (some v)->Q v H2->wq Q x y H2
def D5 (td ty:TE):TE:=fun σ H Q=>td σ H fun x H1=>ty σ H1 fun y H2=>wq Q x y H2
inductive AM (Q:VK) (y:V) (x:V) (H2:Hp):Prop
 | mk (a o:_):x=.ref a->Li H2 a y o->Q (.bl o.isSome) H2->AM Q y x H2
def FF (ty td:TE):TE:=fun σ H Q=>ty σ H fun y H1=>td σ H1 fun x H2=>AM Q y x H2
inductive qb (Q:VK) (y:V) (x:V) (H2:Hp):Prop
 | mk (a o:_):x=.ref a->Li H2 a y o->Q (.bl (!o.isSome)) H2->qb Q y x H2
def y8 (ty td:TE):TE:=fun σ H Q=>ty σ H fun y H1=>td σ H1 fun x H2=>qb Q y x H2
inductive wr (D:dJ) (σ:St) (v:V) (x:V) (y:V) (H3:Hp):Prop
 | mk (a H4:_):x=.ref a->LA H3 a y v H4->D.nx σ H4->wr D σ v x y H3
def D6 (td ty tv:TE):TS:=fun D σ H=>tv σ H fun v H1=>td σ H1 fun x H2=>ty σ H2 fun y H3=>wr D σ v x y H3
section
variable {X:Cx} {o i e value:Expr} {pos pos' tpos:Pos} {td ty tv:TE}
theorem bD (hu:X.A.units+1 < cLine) (ho:PE X o td) (hi:PE X i ty) (hs:D4 i):PE X (.Subscript o i pos) (D5 td ty):=by
 refine ⟨?_⟩
 intro IP s σ H Q I h
 refine y6 PySem.F.slot_dict_getitem.lookup hs (bM (ho IP s σ H _ I h) fun u s1 ⟨x,H1,I1,rx,q1⟩=>bM (hi IP s1 σ H1 _ I1 q1) fun iv s2 ⟨y,H2,I2,ry,a,v,ex,g,q2⟩=>?_)
 subst ex
 obtain rfl:u=Value.ref a:=rx
 exact ⟨qa I2 g,uM hu I2 g ry fun w' s3 I3 rw'=>⟨v,H2,I3,rw',q2⟩⟩
theorem wt (hu:X.A.units+1 < cLine) (hi:PE X i ty) (ho:PE X o td):PC X .In i o (FF ty td):=by
 intro IP s σ H Q I h
 refine bM (hi IP s σ H _ I h) fun iv s1 ⟨y,H1,I1,ry,q1⟩=>bM (ho IP s1 σ H1 _ I1 q1) fun u s2 ⟨x,H2,I2,rx,a,ov,ex,g,q2⟩=>?_
 subst ex
 obtain rfl:u=Value.ref a:=rx
 exact FE hu I2 g ry fun s3 I3=>⟨.bl ov.isSome,H2,I3,rfl,q2⟩
theorem uO (hu:X.A.units+1 < cLine) (hi:PE X i ty) (ho:PE X o td):PC X .NotIn i o (y8 ty td):=by
 intro IP s σ H Q I h
 refine bM (hi IP s σ H _ I h) fun iv s1 ⟨y,H1,I1,ry,q1⟩=>bM (ho IP s1 σ H1 _ I1 q1) fun u s2 ⟨x,H2,I2,rx,a,ov,ex,g,q2⟩=>?_
 subst ex
 obtain rfl:u=Value.ref a:=rx
 exact y4 hu I2 g ry fun s3 I3=>⟨.bl (!ov.isSome),H2,I3,rfl,q2⟩
theorem dQ (hu:X.A.units+1 < cLine) (ho:PE X o td) (hi:PE X i ty) (hv:PE X value tv) (hs:swapsWith value (some (.Subscript o i pos')) pos.line X.env=pure false) :
  PS X (.Assign [.Subscript o i pos'] value pos) (D6 td ty tv):=by
 refine ⟨?_⟩
 intro IP s σ H D I h
 refine wpAny_Assign_Subscript (bM (hv IP s σ H _ I h) fun r s1 ⟨v,H1,I1,rv,q1⟩=>bM (ho IP s1 σ H1 _ I1 q1) fun u s2 ⟨x,H2,I2,rx,q2⟩=>bM (hi IP s2 σ H2 _ I2 q2) fun iv s3 ⟨y,H3,I3,ry,a,H4,ex,g,q3⟩=>?_) hs
 subst ex
 obtain rfl:u=Value.ref a:=rx
 exact uN hu I3 g ry rv fun s4 I4=>⟨σ,H4,I4,q3⟩
end
theorem qc (h:Heap) (hb:sysModules < h.objs.size):K6 P w H (h.push { cls:=.type "dict",data:=.dict #[] }) h.objs.size (.dK []):=
 ⟨Hj _,beq_eq_false_iff_ne.mpr (Ne.symm (Hq hb)),[],.nil,Heap.DictOf.new h⟩
theorem wu (h:Heap) (hb:sysModules < h.objs.size):K6 P w H (h.push { cls:=.type "dict",data:=.dict #[] }) h.objs.size (.dT []):=
 ⟨Hj _,beq_eq_false_iff_ne.mpr (Ne.symm (Hq hb)),[],.nil,_,#[],0,GZ _ rfl,⟨rfl,rfl,rfl⟩,rfl,rfl,List.nodup_nil⟩
def BK:TE:=fun _ H Q=>∀ p,H p=none->Q (.ref p) (aI H p (.dK []))
def BL:TE:=fun _ H Q=>∀ p,H p=none->Q (.ref p) (aI H p (.dT []))
section
variable {X:Cx} {pos:Pos}
theorem qd:PE X (.Dict [] [] pos) BK:=⟨fun IP s σ H Q I h=>
 wpAny_Dict_empty ⟨.ref s.heap.objs.size,_,I.laid (a:=s.heap.objs.size) (o:=.dK []) (t':=s.toks) (fun _ _ q=>GI _ q) (GE _) (qc s.heap I.big),rfl,h _ (I.hok.fresh (GE _))⟩⟩
theorem wv:PE X (.Dict [] [] pos) BL:=⟨fun IP s σ H Q I h=>
 wpAny_Dict_empty ⟨.ref s.heap.objs.size,_,I.laid (a:=s.heap.objs.size) (o:=.dT []) (t':=s.toks) (fun _ _ q=>GI _ q) (GE _) (wu s.heap I.big),rfl,h _ (I.hok.fresh (GE _))⟩⟩
end
def rl:List (TE×TE)->St->Hp->(List (V×V)->Hp->Prop)->Prop
 | [],_,H,Q=>Q [] H
 | (tk,tv)::r,σ,H,Q=>tk σ H fun x H1=>tv σ H1 fun y H2=>rl r σ H2 fun ps H3=>Q ((x,y)::ps) H3
abbrev VV:List (V×V)->List (Value×Value)->Prop:=Paired fun p q=>K1 p.1 q.1/\K1 p.2 q.2
def Fb (X:Cx) (pos:Pos) (keys:List (Option Expr)) (values:List Expr) (trs:List (TE×TE)):Prop:=
 ∀ (IP:List (Addr×Obj)) (s:Shared) (σ:St) (H:Hp) (Q:List (V×V)->Hp->Prop),KQ X IP σ H s->rl trs σ H Q->
  wpAny (model X.prog X.w) X.A (evalPairs (pairTrees keys values X.env pos)) (fun vs s'=>∃ ps H',KQ X IP σ H' s'/\VV ps vs/\Q ps H') X.xe s
theorem y9 {pos:Pos}:Fb X pos [] [] []:=fun IP s σ H Q I h=>pairTrees_nil_walk ⟨[],H,I,.nil,h⟩
variable {trs:List (TE×TE)}
theorem k9 {pos:Pos} {k v:Expr} {ks:List (Option Expr)} {vs:List Expr} {tk tv:TE} (hk:PE X k tk) (hv:PE X v tv) (hr:Fb X pos ks vs trs) :
  Fb X pos (some k::ks) (v::vs) ((tk,tv)::trs):=fun IP s σ H Q I h=>
 pairTrees_cons_walk (bM (hk IP s σ H _ I h) fun u s1 ⟨x,H1,I1,rx,q1⟩=>bM (hv IP s1 σ H1 _ I1 q1) fun w2 s2 ⟨y,H2,I2,ry,q2⟩=>
  bM (hr IP s2 σ H2 _ I2 q2) fun ws s3 ⟨ps,H3,I3,rel,q3⟩=>⟨(x,y)::ps,H3,I3,.cons ⟨rx,ry⟩ rel,q3⟩)
def ig (kvs more:List (cE×V)):List (cE×V):=more.foldl (fun acc kv=>bu acc kv.1 kv.2) kvs
theorem KV.merge:∀ {more:List (cE×V)} {rs:List (cE×Value)} {kvs:List (cE×V)} {vs:List (cE×Value)},KV more rs->KV kvs vs->KV (ig kvs more) (merged vs rs):=by
 intro more rs kvs vs r
 unfold KV at r
 induction r generalizing kvs vs with
 | nil=>intro q;exact q
 | @cons p q ps qs h t ih=>
  intro r0
  have e:KV (bu kvs p.1 p.2) (stored vs q.1 q.2):=by
   have:=r0.put p.1 h.2
   rw [<-h.1];exact this
  exact ih e
theorem eV:∀ (more kvs:List (cE×V)),(ig kvs more).length<=kvs.length+more.length
 | [],kvs=>by show kvs.length<=kvs.length+0;lia
 | p::r,kvs=>by
  have h1:=eV r (bu kvs p.1 p.2)
  have h2:=fZ kvs p.1 p.2
  show (ig (bu kvs p.1 p.2) r).length<=_
  rw [GB];lia
theorem ld {P:Program} {w:World}:∀ {kvs:List (cE×V)} {ws:List (Value×Value)},VV (kvs.map fun kv=>(kV kv.1,kv.2)) ws->∃ rs,Carries (cA P w) ws rs/\KV kvs rs
 | [],_,r=>by rw [HM] at r;cases r;exact ⟨[],True.intro,.nil⟩
 | p::kvs,_,r=>by
  rw [GO] at r
  cases r with
  | @cons a b as bs h t=>
   obtain ⟨rs,c,q⟩:=ld (P:=P) (w:=w) t
   obtain ⟨b1,b2⟩:=b
   exact ⟨(p.1,b2)::rs,⟨mT h.1,rfl,c⟩,.cons ⟨rfl,h.2⟩ q⟩
def D7 (trs:List (TE×TE)):TE:=fun σ H Q=>∀ p,H p=none->rl trs σ (aI H p (.dK [])) fun ps H2=>H2 p=some (.dK [])/\∃ kvs:List (cE×V),ps=kvs.map (fun kv=>(kV kv.1,kv.2))/\kvs.length<=15/\Q (.ref p) (aI H2 p (.dK (ig [] kvs)))
theorem za {pos:Pos} {keys:List (Option Expr)} {values:List Expr} (h:Fb X pos keys values trs) (hall:keys.all (·.isSome)=true) (hl:keys.length=values.length) (h0:keys≠[])
  (h15:keys.length<=15):PE X (.Dict keys values pos) (D7 trs):=by
 refine ⟨?_⟩
 intro IP s σ H Q I q
 have hn:=I.hok.fresh (GE s.heap.objs.size)
 have I1:=I.laid (a:=s.heap.objs.size) (o:=.dK []) (h':=s.heap.push { cls:=.type "dict",data:=.dict #[] }) (t':=s.toks) (fun _ _ q=>GI _ q) (GE _) (qc s.heap I.big)
 refine wpAny_Dict_walk (knd:=cA X.prog X.w) hall hl h0 h15 (bM (h IP _ σ _ _ I1 (q _ hn)) fun ws s2 ⟨ps,H2,I2,rel,e,kvs,ep,lk,q2⟩=>?_)
 subst ep
 obtain ⟨rs,c,rk⟩:=ld (P:=X.prog) (w:=X.w) rel
 obtain ⟨z,hd,vs0,r0,dd⟩:=wo I2.hok e
 cases r0
 refine ⟨rs,c,dd,fun h' dd' hs=>⟨.ref s.heap.objs.size,_,?_,rfl,q2⟩⟩
 have hz:(ig [] kvs).length<=sizeLine:=by
  have h1:=eV kvs []
  rw [GL] at h1
  rw [sizeLine_eq];lia
 have he:∃ q,h'.get? s.heap.objs.size=some q:=let ⟨q,_,_,hq,_⟩:=dd';⟨q,hq⟩
 exact nQ I2 (by rw [e];exact True.intro) hs he (rj hz hd (rk.merge .nil) dd')
def zb (P:St->Hp->Prop) (t u:TS):TS:=fun D σ H=>(∀ σ' H',P σ' H'->u D σ' H')/\t { D with nx:=P } σ H
theorem bz {st:Stmt} {rest:List Stmt} {t u:TS} (P:St->Hp->Prop) (h1:PS X st t) (h2:Mo X rest u):Mo X (st::rest) (zb P t u):=by
 refine ⟨?_⟩
 intro IP s σ H D I h
 refine wpAny_execs_cons (bM (h1 IP s σ H { D with nx:=P } I h.2) fun f s1 q=>?_)
 cases f with
 | next=>
  obtain ⟨σ',H',I',q⟩:=q
  exact h2 IP s1 σ' H' D I' (h.1 _ _ q)
 | ret v=>exact q
 | brk=>exact q
 | cont=>exact q
def D8 (Pt Pf:St->Hp->Prop) (t:TT):TT:=fun σ H Q=>(∀ H',Pt σ H'->Q true H')/\(∀ H',Pf σ H'->Q false H')/\t σ H fun b H'=>if b=true then Pt σ H' else Pf σ H'
theorem c6 {e:Expr} {t:TT} (Pt Pf:St->Hp->Prop) (h:PT X e t):PT X e (D8 Pt Pf t):=by
 refine ⟨?_⟩
 intro IP s σ H Q I hq
 refine bM (h IP s σ H _ I hq.2.2) fun b s1 ⟨H1,I1,q⟩=>⟨H1,I1,?_⟩
 cases b with
 | true=>exact hq.1 H1 (by simpa using q)
 | false=>exact hq.2.1 H1 (by simpa using q)
theorem ww {K:ZF} {a:Addr} {xs:List V} {g:TG} {tf:TT} {te:TE} {ix:List (Option Nat)} {σ:St} {Q:VK} (Pv:Nat->List V->Hp->Prop) (h0:Pv 0 [] H)
  (hl:∀ i ys H,i<=xs.length->Pv i ys H->KP K H a xs/\ys.length<=sizeLine)
  (hs:∀ i x ys H,xs[i]?=some x->Pv i ys H->g x (qN ix σ) H fun σ2 H2=>L9 (qN ix σ) σ2/\tf σ2 H2 fun b H3=>if b=true then te σ2 H3 fun y H4=>Nx Pv xs.length i (ys++[y]) H4 else Nx Pv xs.length i ys H3)
  (hd:∀ ys H,Pv xs.length ys H->∀ D,H D=none->Q (.ref D) (aI H D (.lst ys))) :
  wg (Dr K a) g tf te ix σ H Q:=by
 refine ⟨fun i m ys H=>m=xs.length - i/\i<=xs.length/\Pv i ys H,⟨xs.length,by simp,Hj _,h0⟩,?_⟩
 rintro i m ys H ⟨rfl,hi,p⟩
 obtain ⟨q,hz⟩:=hl i ys H hi p
 by_cases Je:i < xs.length
 ·refine .inr ⟨⟨xs,xs[i],q,by simp [Je]⟩,hz,fun x H' y=>?_⟩
  obtain ⟨e,y⟩:=y
  subst e
  exact hs i x ys _ (y xs q) p
 ·have e:i=xs.length:=by lia
  subst e
  exact .inl ⟨⟨xs,q,GE _⟩,hz,hd ys H p⟩
def K5 (H H':Hp):Prop:=∀ a xs,H a=some (.tup xs)->H' a=some (.tup xs)
theorem K5.trans {H H1 H2:Hp} (a:K5 H H1) (b:K5 H1 H2):K5 H H2:=fun c x e=>b c x (a c x e)
theorem al {H H':Hp} (s:KO H H'):K5 H H':=fun a xs e=>s _ _ e
theorem BM {p:Addr} {xs ys:List V} (h:H p=some (.lst xs)):K5 H (aI H p (.lst ys)):=fun a zs e=>by
 have:a≠p:=by
  rintro rfl
  rw [h] at e
  cases e
 rw [aw this]
 exact e
def li (x:Str):Bool:=(PyData.str x).canLay0
mutual
inductive Td (H:Hp):V->PyData->Prop
 | int (i:Int):Td H (.int i) (.int i)
 | str (x:Str) (h:li x=true):Td H (.str x) (.str x)
 | tup {a:Addr} {xs:List V} {ds:List PyData}:H a=some (.tup xs)->K9 H xs ds->Td H (.ref a) (.tuple ds)
inductive K9 (H:Hp):List V->List PyData->Prop
 | nil:K9 H [] []
 | cons {v:V} {d:PyData} {vs:List V} {ds:List PyData}:Td H v d->K9 H vs ds->K9 H (v::vs) (d::ds)
end
mutual
theorem Td.dt {K:ZF} {H:Hp}:∀ {v:V} {d:PyData},Td H v d->Dt K H v d
 | _,_,.int i=>.int i
 | _,_,.str x _=>.str x
 | _,_,.tup e t=>.tup (KP.of e) (K9.dt t)
theorem K9.dt {K:ZF} {H:Hp}:∀ {vs:List V} {ds:List PyData},K9 H vs ds->Ln K H vs ds
 | _,_,.nil=>.nil
 | _,_,.cons h t=>.cons (Td.dt h) (K9.dt t)
end
mutual
theorem Td.lay {H:Hp}:∀ {v:V} {d:PyData},Td H v d->d.canLay0=true
 | _,_,.int i=>rfl
 | _,_,.str x h=>h
 | _,_,.tup e t=>K9.lay t
theorem K9.lay {H:Hp}:∀ {vs:List V} {ds:List PyData},K9 H vs ds->PyData.canLayAll0 ds=true
 | _,_,.nil=>rfl
 | _,_,.cons h t=>by
  simp only [PyData.canLayAll0,Td.lay h,K9.lay t,Bool.and_self]
end
mutual
theorem Td.eqv {H:Hp}:∀ {v:V} {d:PyData},Td H v d->PyData.eqv d d=true
 | _,_,.int i=>by simp [PyData.eqv]
 | _,_,.str x _=>by simp [PyData.eqv]
 | _,_,.tup e t=>by simp only [PyData.eqv];exact K9.eqv t
theorem K9.eqv {H:Hp}:∀ {vs:List V} {ds:List PyData},K9 H vs ds->PyData.eqvAll ds ds=true
 | _,_,.nil=>by simp [PyData.eqvAll]
 | _,_,.cons h t=>by
  simp only [PyData.eqvAll,Td.eqv h,K9.eqv t,Bool.and_self]
end
section
variable {X:Cx}
inductive MT (X:Cx) (m:Str) (t:TA) (σ:St) (Q:VK) (x:V) (H1:Hp):Prop
 | mk (a dx C f:Addr) (fs:List (Str×V)) (fd:FuncData) (k:Nat) (ps:List Str) (sp:Sp):x=.ref a->H1 a=some (.ins C dx fs)->fs.lookup m=none->MW X.K C->yT X.K C m f->KU X.prog X.w X.K X.mg X.base bY k f fd ps sp->KY k X.A->Ld X.K fd ps []->(t σ H1 fun vs H2=>sp (.ref a::vs) H2 Q E0)->MT X m t σ Q x H1
def NL (X:Cx) (m:Str) (ta:TE) (t:TA):TE:=fun σ H Q=>ta σ H fun x H1=>MT X m t σ Q x H1
variable {ta:TE} {o e:Expr}
theorem KZ {pl:Sem Bool} {es:List Expr} {m:Str} {t:TA} {pos apos:Pos} (he:PE X o ta) (ha:PA X (e::es) t)
  (hst:starEach (e::es) X.env=(false,eval e X.env)::starEach es X.env:=by rfl) (hpl:(backTo pos (starEach es X.env)).any (·.1)=false:=by rfl)
  (ht:eval (.Call (.Attribute o m apos) (e::es) [] pos) X.env=(do
   let ov <-eval o X.env
   standAt apos.atName
   let (f,first) <-holding [ov] (getMethod ov m pl)
   callWith pos f first (backTo pos (starEach (e::es) X.env)) (backToKw pos (keywordEach [] X.env))):=by rfl) :
  PE X (.Call (.Attribute o m apos) (e::es) [] pos) (NL X m ta t):=by
 refine ⟨?_⟩
 intro IP s σ H Q I h
 refine PySem.W.methodCall_KW (pl:=pl) (bM (he IP s σ H _ I h) fun u s1 ⟨x,H1,I1,rx,a,dx,C,f,fs,fd,k,ps,sp,ex,ea,l,c,hm,F,hr,hb,q⟩=>?_) ht
 subst ex
 obtain rfl:u=Value.ref a:=rx
 refine kM I1 ea c hm l ?_
 refine Iu (first:=[.ref a]) (h₀:=X.base) I.ok.mod.kin hm.kp (bM (ha pos IP s1 σ H1 _ I1 q) fun us s2 ⟨vs,H2,I2,r,q2⟩=>⟨I2.kIn,?_⟩) hst hpl
 exact nE (us:=.ref a::us) (vs:=.ref a::vs) (dvs:=[]) (ds:=[]) F hr hb .nil kO I2 (.cons rfl r) (by rw [Hw];exact q2)
inductive ME (X:Cx) (m:Str) (Q:VK) (x:V) (H1:Hp):Prop
 | mk (a dx C f:Addr) (fs:List (Str×V)) (fd:FuncData) (k:Nat) (ps:List Str) (sp:Sp):x=.ref a->H1 a=some (.ins C dx fs)->fs.lookup m=none->MW X.K C->yT X.K C m f->KU X.prog X.w X.K X.mg X.base bY k f fd ps sp->KY k X.A->Ld X.K fd ps []->sp [.ref a] H1 Q E0->ME X m Q x H1
def Ny (X:Cx) (m:Str) (ta:TE):TE:=fun σ H Q=>ta σ H fun x H1=>ME X m Q x H1
theorem KR {pl:Sem Bool} {m:Str} {pos apos:Pos} (he:PE X o ta)
  (ht:eval (.Call (.Attribute o m apos) [] [] pos) X.env=(do
   let ov <-eval o X.env
   standAt apos.atName
   let (f,first) <-holding [ov] (getMethod ov m pl)
   callWith pos f first (backTo pos (starEach [] X.env)) (backToKw pos (keywordEach [] X.env))):=by rfl) :
  PE X (.Call (.Attribute o m apos) [] [] pos) (Ny X m ta):=by
 refine ⟨?_⟩
 intro IP s σ H Q I h
 refine PySem.W.methodCall_KW (pl:=pl) (bM (he IP s σ H _ I h) fun u s1 ⟨x,H1,I1,rx,a,dx,C,f,fs,fd,k,ps,sp,ex,ea,l,c,hm,F,hr,hb,q⟩=>?_) ht
 subst ex
 obtain rfl:u=Value.ref a:=rx
 refine kM I1 ea c hm l ?_
 exact PySem.W.callWith_K0 (first:=[.ref a]) I1.kIn hm.kp (nE (us:=[.ref a]) (vs:=[.ref a]) (dvs:=[]) (ds:=[]) F hr hb .nil kO I1 (.cons rfl .nil) q)
end
def NN (K:ZF) (l:Addr):It:=
 ⟨fun i H=>∃ xs x,KW K H l xs/\xs[i]?=some x,
  fun i H v H'=>∃ T x,v=.ref T/\H T=none/\H'=aI H T (.tup [.int i,x])/\∀ xs,KW K H l xs->xs[i]?=some x,
  fun i H=>∃ xs,KW K H l xs/\xs.length<=i⟩
theorem M7 {P:Program} {w:World} {K:ZF} {elts:List Expr} {kt:Nat} {tp:Pos} {e it l:Addr} (Jb:e≠it) :
  pF P w K (.Tuple elts kt tp) (NN K l) [e,it] e (fun i h=>(∃ old,IsEnum h e it i old)/\h.IsListIter it l i) where
 mem:=by simp
 obj:=fun i h st b hb=>by
  obtain ⟨⟨old,he⟩,⟨o1,h1,_,d1⟩⟩:=st
  simp at hb
  rcases hb with rfl|rfl
  ·exact ⟨_,he,fun v q=>by cases q⟩
  ·exact ⟨_,h1,fun v q=>by rw [d1] at q;cases q⟩
 keep:=fun i h h' st k=>by
  obtain ⟨⟨old,he⟩,h1⟩:=st
  exact ⟨⟨old,k e (by simp) _ he⟩,h1.at fun o q=>k it (by simp) o q⟩
 item:=by
  intro X hP hw hK hc i IP s σ H E I hf st hg
  subst hP hw hK
  obtain ⟨xs,x,hx,ex⟩:=hg
  obtain ⟨⟨old,he⟩,h1⟩:=st
  obtain ⟨its1,rv1,p1,z1⟩:=I.list hx
  obtain ⟨u1,eu1,ru1⟩:=rv1.get ex
  refine wpAny_pyNext_enum_item he h1 p1.isList (x:=u1) (by simpa using eu1) Jb fun h' a1 a2 a3 a4 a5=>⟨_,rfl,?_⟩
  refine wpAny_letOwnedTupleGo_enum a1 fun h'' b1 b2=>?_
  have hT:H s.heap.objs.size=none:=I.hok.fresh (GE _)
  have low:∀ b o,s.heap.get? b=some o->b≠s.heap.objs.size:=fun b o q=>Hq (GT q)
  refine ⟨.ref s.heap.objs.size,aI H s.heap.objs.size (.tup [.int i,x]),?_,rfl,⟨s.heap.objs.size,x,rfl,hT,rfl,fun xs' h=>by rw [I.list_inj h hx];exact ex⟩,?_,fun b hb=>?_⟩
  ·show KQ X IP σ (aI H s.heap.objs.size (.tup [.int i,x])) { s with heap:=h'',toks:=s.toks+1 }
   refine KQ.turnedS (s:=s) (h':=h'') (t':=s.toks+1) (ch:=[e,it]) I (fun b hb=>hf b hb) (fun b o hc q=>?_) (fun b o q=>by rw [aw (aK q hT)];exact q) (fun b hb n=>by rw [aw (Hq hb)];exact n) fun b o n q=>?_
   ·simp at hc
    exact b2.extBut b o hc.1 (a5 b o hc.1 hc.2 q)
   ·by_cases eb:b=s.heap.objs.size
    ·subst eb
     rw [ac] at q
     cases q
     refine ⟨aW,[.int i s.toks,u1],.cons ⟨_,rfl⟩ (.cons ru1 .nil),_,b2.extBut _ _ ?_ a3,rfl,_,rfl⟩
     exact fun z=>low e _ he z.symm
    ·rw [aw eb,n] at q
     cases q
  ·refine ⟨⟨_,b1⟩,a2.at fun o q=>b2.extBut _ o Jb.symm q⟩
  ·have n:=(hf b hb).1
   have:b≠s.heap.objs.size:=by
    simp at hb
    obtain ⟨_,q1,_⟩:=id h1
    rcases hb with rfl|rfl
    ·exact low _ _ he
    ·exact low _ _ q1
   rw [aw this]
   exact n
 done:=by
  intro X hP hw hK hc i IP s σ H E I hf st hg
  subst hP hw hK
  obtain ⟨xs,hx,hl⟩:=hg
  obtain ⟨⟨old,he⟩,h1⟩:=st
  obtain ⟨its1,rv1,p1,z1⟩:=I.list hx
  have e1:=rv1.length
  refine wpAny_pyNext_enum_end (I.ok.hd hc) he h1 p1.isList (by simp;lia) fun h' k=>⟨rfl,?_⟩
  obtain ⟨f0,f1,f2,f3,f4,f5⟩:=hf it (by simp)
  exact I.turned (t':=s.toks) (fun b o hb q=>k b o hb q) f0 f1 f3 f4 f5
 self:=fun _ _ _ _ _ st h=>wpAny_pyIter_enum st.1.choose_spec h
section
variable {X:Cx}
inductive Nc (K:ZF) (R:It->Hp->Prop) (vs:List V) (H1:Hp):Prop
 | mk (l:_):vs=[.ref l]->(∃ xs,KW K H1 l xs)->R (NN K l) H1->Nc K R vs H1
def NT (K:ZF) (ta:TA):TI:=fun σ H R=>ta σ H fun vs H1=>Nc K R vs H1
theorem Mp:bootBuiltins "enumerate"=some (.type "enumerate"):=by decide +kernel
theorem LO {elts:List Expr} {kt:Nat} {tp:Pos} {a:Expr} {ta:TA} {p pos:Pos} (hg:Gl X "enumerate") (hm:X.mg "enumerate"=none) (ha:PA X [a] ta) (hs:starEach [a] X.env=[(false,eval a X.env)]:=by rfl) :
  PI X (.Tuple elts kt tp) (.Call (.Name "enumerate" p) [a] [] pos) (NT X.K ta):=by
 refine ⟨?_⟩
 intro IP s σ H R I h
 refine Call_ (jl I hg hm Mp (HQ (bM (ha pos IP s σ H _ I h) fun us s1 ⟨vs,H1,I1,r1,q1⟩=>?_) hs rfl))
 obtain ⟨l,e,⟨xs,hx⟩,q⟩:=q1
 subst e
 cases r1 with
 | cons r rr=>
  cases rr
  cases r
  obtain ⟨its1,rv1,p1,z1⟩:=I1.list hx
  refine call_enumerate_list p1.isList fun h' a1 a2 a3 a4=>?_
  refine wpAny_pyIter_enum a1 ?_
  refine ⟨_,[s1.heap.objs.size+1,s1.heap.objs.size],_,_,H1,rfl,I1.kept (t':=s1.toks) a4,M7 (Nat.ne_of_gt (Ip _)),⟨⟨_,a1⟩,a2⟩,fun b hb=>?_,q⟩
  have hb':s1.heap.objs.size<=b:=by
   simp only [GF,GH,or_false] at hb
   rcases hb with e|e<;>rw [e]
   ·exact Nat.le_add_right _ _
   ·exact GE _
  exact I1.fpOk hb' (I1.hok.fresh hb')
end
theorem Nn {K:ZF} {l:Addr} {xs:List V} {g:TG} {tb:TS} {D:dJ} {σ:St} {H:Hp} (Pv:Nat->St->Hp->Prop) (h0:Pv 0 σ H) (hl:∀ i σ H,i<=xs.length->Pv i σ H->KW K H l xs)
  (hs:∀ i x σ H T,xs[i]?=some x->H T=none->Pv i σ H->g (.ref T) σ (aI H T (.tup [.int i,x])) fun σ2 H2=>tb { D with nx:=Pv (i+1),ct:=Pv (i+1),bk:=D.nx } σ2 H2) (hd:∀ σ H,Pv xs.length σ H->D.nx σ H) :
  ∃ W:Nat->Nat->St->Hp->Prop,(∃ m,W 0 m σ H)/\∀ i m σ H,W i m σ H->
   ((NN K l).stop i H/\D.nx σ H)\/((NN K l).go i H/\∃ N:St->Hp->Prop,(∀ σ' H',N σ' H'->∃ m',m' < m/\W (i+1) m' σ' H')/\∀ x H',(NN K l).yld i H x H'->g x σ H' fun σ2 H2=>tb { D with nx:=N,ct:=N,bk:=D.nx } σ2 H2):=by
 refine ⟨fun i m σ H=>m=xs.length - i/\i<=xs.length/\Pv i σ H,⟨xs.length,by simp,Hj _,h0⟩,?_⟩
 rintro i m σ H ⟨rfl,hi,p⟩
 have q:=hl i σ H hi p
 by_cases Je:i < xs.length
 ·refine .inr ⟨⟨xs,xs[i],q,by simp [Je]⟩,Pv (i+1),fun σ' H' p'=>⟨xs.length - (i+1),by lia,rfl,Je,p'⟩,fun v H' y=>?_⟩
  obtain ⟨T,x,e1,hT,e2,hy⟩:=y
  subst e1 e2
  exact hs i x σ H T (hy xs q) hT p
 ·have e:i=xs.length:=by lia
  subst e
  exact .inl ⟨⟨xs,q,GE _⟩,hd σ H p⟩
section
variable {X:Cx}
theorem MO:dN X (.type "dict") (fun xs H Q=>∃ (d:Addr) (kvs:List (cE×V)),xs=[.ref d]/\H d=some (.dK kvs)/\∀ a,H a=none->Q (.ref a) (aI H a (.dK kvs))):=by
 intro IP s σ H xs us Q I r h
 obtain ⟨d,kvs,rfl,hd,q⟩:=h
 obtain ⟨u,rfl,rx⟩:=gX r
 cases rx
 obtain ⟨hz,hs,vs,rel,dd⟩:=wo I.hok hd
 refine PySem.kt_call_dict hs dd (by rw [<-rel.length];exact hz) fun h' hd' hsb=>?_
 have hk:∀ b o,s.heap.get? b=some o->h'.get? b=some o:=fun b o e=>hsb.extBut b o (Hq (GT e)) (GI _ e)
 have hbig:=I.big
 have e:s={ s with toks:=s.toks }:=by cases s;rfl
 refine ⟨.ref s.heap.objs.size,_,I.laid (t':=s.toks) (a:=s.heap.objs.size) (o:=.dK kvs) hk (GE _) ?_,rfl,q _ (I.hok.fresh (GE _))⟩
 exact rj hz (by
  have:¬ s.heap.objs.size=sysModules:=Nat.ne_of_gt hbig
  simpa using this) rel hd'
end
end L2
namespace PySem
open Sem (wp)
def tupIt (l:Addr):Obj:={ cls:=.type "tuple_iterator",data:=.fields #[.ref l,.int 0 0] }
def enumOver (it:Addr):Obj:={ cls:=.type "enumerate",data:=.fields #[.none,.bool false,.ref it,rawInt 0,.none,.none] }
theorem M5 (l:Addr) (Jf:Array Value) (n:Nat) (od:Option Addr) (os:Array (Option Value)):Meets (Builtin.«enumerate.__new__» ⟨[.type "enumerate",.ref l],[]⟩) (fun _ R s=>
  s.heap.get? l=some { cls:=.type "tuple",dict:=od,data:=.seq Jf n,slots:=os }/\R (.ok (.ret (.ref (s.heap.push (tupIt l)).objs.size))) { s with heap:=(s.heap.push (tupIt l)).push (enumOver s.heap.objs.size) }):=
 .of_wp fun prog w A R s both=>by
  rcases s with ⟨hp,gs,dr,tk,sys⟩
  have there:=both.1
  have good:=both.2
  have under:=sub_enumerate
  have isT:hp.IsTuple l Jf:=⟨_,there,rfl,n,rfl⟩
  wp_walk using wpAny_loadPart' there
  refine wpAny_stack_any fun _=>wpAny_pure ?_
  split
  ·rename_i c _ _ _ _ _
   rcases hb:(c == Value.type "enumerate") with _|_<;>(wp_walk using wpAny_loadPart' there,wpAny_pyIter_tuple isT;exact ⟨_,rfl,good⟩)
  ·(wp_walk using wpAny_loadPart' there,wpAny_pyIter_tuple isT;exact ⟨_,rfl,good⟩)
section
variable {prog:Program} {w:World} {A:Around} {E:Value->Shared->Prop} {s:Shared}
theorem enum_of_tuple {l:Addr} {Jf:Array Value} {Q:Value->Shared->Prop} (isT:s.heap.IsTuple l Jf)
  (h:Q (.ref (s.heap.objs.size+1)) { s with heap:=(s.heap.push (tupIt l)).push (enumOver s.heap.objs.size) }):wpAny (model prog w) A (call (.type "enumerate") [.ref l]) Q E s:=by
 obtain ⟨o,there,CS,n,isD⟩:=isT
 cases o with
 | mk oc od odt osl=>
  dsimp only at CS isD
  subst CS isD
  have sz:(s.heap.push (tupIt l)).objs.size=s.heap.objs.size+1:=IF ..
  have lies:((s.heap.push (tupIt l)).push (enumOver s.heap.objs.size)).get? (s.heap.objs.size+1)=some (enumOver s.heap.objs.size):=sz ▸ GZ (s.heap.push (tupIt l)) rfl
  refine callType_new F.called_enumerate (by decide) (F.typeCall_enumerate_1 _) (F.newCall_enumerate_1 _) (fun x=>F.args_object_init_2 x _) F.entry_enumerate_new (M5 l Jf n od osl) ⟨there,?_⟩
  show _/\_
  rw [sz]
  exact ⟨⟨_,lies,rfl⟩,h⟩
end
section
variable {prog:Program} {w:World} {A:Around} {E:Value->Shared->Prop} {s:Shared}
variable {Jf:Array Value} {i:Nat}
theorem LG {it t:Addr} {x:Value} {Q:Value->Shared->Prop} (hit:s.heap.IsTupleIter it t i) (ht:s.heap.IsTuple t Jf) (hx:Jf[i]?=some x)
  (hQ:∀ h',h'.IsTupleIter it t (i+1)->Heap.SameBut it s.heap h'->Q x { s with heap:=h' }):wpAny (model prog w) A (Builtin.SmallTypes.nextOf (.ref it)) Q E s:=by
 obtain ⟨o,ho,hc,hd⟩:=id hit
 obtain ⟨ol,hol,_,nl,hdl⟩:=ht
 unfold Builtin.SmallTypes.nextOf
 refine wpAny_bind (wpAny_callSpecial?_slot (name:=Str.ofString "__next__") hit.typeIs F.slot_tuple_iterator_next
  (wpAny_call_entry F.slot_tuple_iterator_next hit.typeIs F.entry_tuple_iterator_next ?_ (F.args_tuple_iterator_next_1 _)))
 show wpAny _ _ (field (.ref it) 0 >>= _) _ _ s
 refine wpAny_bind (wpAny_field ho hd (x:=.ref t) rfl ?_)
 show wpAny _ _ (if (Value.ref t == Value.none)=true then _ else _) _ _ s
 rw [if_neg (show ¬ ((Value.ref t == Value.none)=true) from GU)]
 show wpAny _ _ (field (.ref it) 1 >>= _) _ _ s
 refine wpAny_bind (wpAny_field ho hd (x:=.int i 0) rfl ?_)
 show wpAny _ _ (seqItems? (.ref t) >>= _) _ _ s
 refine wpAny_bind (wpAny_seqItems hol hdl ?_)
 simp only [HL,hx]
 refine wpAny_bind (wpAny_setField ho hd (by simp) (wpAny_pure ⟨x,rfl,wpAny_pure (hQ _ ?_ (Heap.SameBut.update ..))⟩))
 exact ⟨_,Heap.get?_update_self _ ho (Obj.isFreed_of_fields (Obj.data_mapFields hd _)),(Obj.cls_mapFields ..).trans hc,by
  rw [Obj.data_mapFields hd];simp [rawInt]⟩
theorem nextOf_tuple_end {it t:Addr} {Q:Value->Shared->Prop} (hh:A.handled=none) (hit:s.heap.IsTupleIter it t i) (ht:s.heap.IsTuple t Jf) (hx:Jf[i]?=none)
  (hE:∀ h' e,Heap.ExtBut it s.heap h'->(∃ o,h'.get? e=some o/\o.cls=.type "StopIteration")->E (.ref e) { s with heap:=h' }):wpAny (model prog w) A (Builtin.SmallTypes.nextOf (.ref it)) Q E s:=by
 obtain ⟨o,ho,hc,hd⟩:=id hit
 obtain ⟨ol,hol,_,nl,hdl⟩:=ht
 unfold Builtin.SmallTypes.nextOf
 refine wpAny_bind (wpAny_callSpecial?_slot (name:=Str.ofString "__next__") hit.typeIs F.slot_tuple_iterator_next
  (wpAny_call_entry F.slot_tuple_iterator_next hit.typeIs F.entry_tuple_iterator_next ?_ (F.args_tuple_iterator_next_1 _)))
 show wpAny _ _ (field (.ref it) 0 >>= _) _ _ s
 refine wpAny_bind (wpAny_field ho hd (x:=.ref t) rfl ?_)
 show wpAny _ _ (if (Value.ref t == Value.none)=true then _ else _) _ _ s
 rw [if_neg (show ¬ ((Value.ref t == Value.none)=true) from GU)]
 show wpAny _ _ (field (.ref it) 1 >>= _) _ _ s
 refine wpAny_bind (wpAny_field ho hd (x:=.int i 0) rfl ?_)
 show wpAny _ _ (seqItems? (.ref t) >>= _) _ _ s
 refine wpAny_bind (wpAny_seqItems hol hdl ?_)
 simp only [HL,hx]
 refine wpAny_bind (wpAny_rule (wpAny_bind (wpAny_setField ho hd (by simp) ?_)))
 show wpAny _ _ (newExc (.type "StopIteration") [] >>= _) _ _ _
 refine wpAny_bind ?_
 simp only [newExc,newTuple]
 refine wpAny_bind (wpAny_newObj_type ?_ (by size_fits))
 refine wpAny_bind (m:=firstArgMember _ _) (wpAny_of_eq (a:=Value.none) (by first|rfl|(simp only [firstArgMember];rfl)) ?_)
 refine wpAny_newObj_type ?_ (by size_fits)
 simp only [raiseNew]
 refine wpAny_bind (wpAny_handled ?_)
 first|rw [show A.in1.handled=none from hh]|rw [hh]
 refine wpAny_bind (wpAny_pure (wpAny_throw ?_))
 exact hE _ _ (((Heap.SameBut.update ..).extBut.push _).push _) ⟨_,GZ _ rfl,rfl⟩
end
theorem drawsTuple {prog:Program} {w:World} {A:Around} (hh:A.handled=none) (it l:Addr) (Jb:l≠it) (Jf:Array Value) :
  Draws prog w A it [it,l] Jf.size (fun i v=>Jf[i]?=some v) (fun i h=>h.IsTupleIter it l i/\h.IsTuple l Jf) where
 live:=fun _ _ st=>let ⟨o,ho,_⟩:=st.1;⟨o,ho⟩
 frame:=fun _ _ _ st hk=>⟨let ⟨o,ho,r⟩:=st.1;⟨o,hk it (by simp) o ho,r⟩,let ⟨o,ho,r⟩:=st.2;⟨o,hk l (by simp) o ho,r⟩⟩
 item:=fun i s Q E hi st hQ=>by
  refine LG st.1 st.2 (x:=Jf[i]) (by simp [hi]) fun h' hit' hs'=>?_
  exact hQ _ h' s.toks (by simp [hi]) ⟨hit',st.2.extBut hs'.extBut Jb⟩ hs'
 done:=fun s Q E st hE=>nextOf_tuple_end hh st.1 st.2 (by simp) hE
end PySem
namespace L2
open PySem PySem.Spec PyProof.Rows
variable {i:Nat} {h h':Heap}
theorem D9 {it l:Addr} (a:h.IsTupleIter it l i) (k:∀ o,h.get? it=some o->h'.get? it=some o):h'.IsTupleIter it l i:=let ⟨o,b,c⟩:=a;⟨o,k o b,c⟩
variable {Jf:Array Value}
theorem AO {it l:Addr} (t:h.IsTuple l Jf) (a:h.IsTupleIter it l i):l≠it:=by
 rintro rfl
 obtain ⟨o,x,c,_⟩:=t
 obtain ⟨o',x',c',_⟩:=a
 rw [x] at x'
 cases x'
 rw [c] at c'
 injection c' with z
 exact absurd z (by decide)
theorem uP {prog:Program} {w:World} {A:Around} {E:Value->Shared->Prop} {s:Shared} {e it l:Addr} {old:Value} {Q:Option Value->Shared->Prop} (hh:A.handled=none) (he:IsEnum s.heap e it i old) (h1:s.heap.IsTupleIter it l i) (isT:s.heap.IsTuple l Jf) (hi:Jf.size<=i)
  (hQ:∀ h',Heap.ExtBut it s.heap h'->Q none { s with heap:=h' }):wpAny (model prog w) A (pyNext (.ref e)) Q E s:=by
 have hT:s.TypeIs (.ref e) "enumerate":=⟨_,he,rfl⟩
 unfold pyNext
 refine wpAny_bind (wpAny_attempt (wpAny_callSpecial?_slot (name:=Str.ofString "__next__") hT PySem.F.slot_enumerate_next (wpAny_call_entry PySem.F.slot_enumerate_next hT PySem.F.entry_enumerate_next ?_ (PySem.F.args_enumerate_next_1 _))))
 show wpAny _ _ (field (.ref e) 2 >>= _) _ _ _
 refine wpAny_bind (wpAny_field he rfl (x:=.ref it) rfl ?_)
 refine wpAny_bind (PySem.nextOf_tuple_end hh h1 isT (Array.getElem?_eq_none hi) fun h' x he' hx'=>?_)
 obtain ⟨o,ho,hc⟩:=hx'
 refine wpAny_bind (wpAny_isInstance (T:="StopIteration") (b:=true) ⟨o,ho,hc⟩ isSubtype_stop ?_)
 exact wpAny_pure (hQ _ he')
def wx (K:ZF) (l:Addr):It:=
 ⟨fun i H=>∃ xs x,KP K H l xs/\xs[i]?=some x,
  fun i H v H'=>∃ T x,v=.ref T/\H T=none/\H'=aI H T (.tup [.int i,x])/\∀ xs,KP K H l xs->xs[i]?=some x,
  fun i H=>∃ xs,KP K H l xs/\xs.length<=i⟩
theorem rm {P:Program} {w:World} {K:ZF} {elts:List Expr} {kt:Nat} {tp:Pos} {e it l:Addr} (Jb:e≠it) :
  pF P w K (.Tuple elts kt tp) (wx K l) [e,it] e (fun i h=>(∃ old,IsEnum h e it i old)/\h.IsTupleIter it l i) where
 mem:=by simp
 obj:=fun i h st b hb=>by
  obtain ⟨⟨old,he⟩,⟨o1,h1,_,d1⟩⟩:=st
  simp at hb
  rcases hb with rfl|rfl
  ·exact ⟨_,he,fun v q=>by cases q⟩
  ·exact ⟨_,h1,fun v q=>by rw [d1] at q;cases q⟩
 keep:=fun i h h' st k=>by
  obtain ⟨⟨old,he⟩,h1⟩:=st
  exact ⟨⟨old,k e (by simp) _ he⟩,D9 h1 fun o q=>k it (by simp) o q⟩
 item:=by
  intro X hP hw hK hc i IP s σ H E I hf st hg
  subst hP hw hK
  obtain ⟨xs,x,hx,ex⟩:=hg
  obtain ⟨⟨old,he⟩,h1⟩:=st
  obtain ⟨its1,rv1,p1,z1⟩:=I.tuple hx
  obtain ⟨u1,eu1,ru1⟩:=rv1.get ex
  have isT:s.heap.IsTuple l its1.toArray:=let ⟨o,a,b,n,c⟩:=p1;⟨o,a,b,n,c⟩
  have nl:l≠it:=AO isT h1
  have ne2:e∉[it,l]:=by
   intro m
   simp only [GF,GH,or_false] at m
   rcases m with m|m
   ·exact Jb m
   ·subst m
    obtain ⟨o,a,b,_⟩:=isT
    rw [show s.heap.get? e=_ from he] at a
    cases a
    injection b with z
    exact absurd z (by decide)
  have Je:i < its1.toArray.size:=by
   have:=(GA.mp eu1).1
   simpa using this
  refine wpAny_pyNext_enum_itemD (PySem.drawsTuple (A:=X.A.in1) (show X.A.in1.handled=none from I.ok.hd hc) it l nl its1.toArray) he ⟨h1,isT⟩ Je Jb ne2 fun v h' tk px a1 a2' a3 a4 a5=>⟨_,rfl,?_⟩
  have evu:v=u1:=by
   have e2:its1.toArray[i]?=some u1:=by simpa using eu1
   rw [e2] at px
   exact (Hd px).symm
  subst evu
  have a2:=a2'.1
  refine wpAny_letOwnedTupleGo_enum a1 fun h'' b1 b2=>?_
  have hT:H s.heap.objs.size=none:=I.hok.fresh (GE _)
  have low:∀ b o,s.heap.get? b=some o->b≠s.heap.objs.size:=fun b o q=>Hq (GT q)
  refine ⟨.ref s.heap.objs.size,aI H s.heap.objs.size (.tup [.int i,x]),?_,rfl,⟨s.heap.objs.size,x,rfl,hT,rfl,fun xs' h=>by rw [I.tuple_inj h hx];exact ex⟩,?_,fun b hb=>?_⟩
  ·show KQ X IP σ (aI H s.heap.objs.size (.tup [.int i,x])) { s with heap:=h'',toks:=tk+1 }
   refine KQ.turnedS (s:=s) (h':=h'') (t':=tk+1) (ch:=[e,it]) I (fun b hb=>hf b hb) (fun b o hc q=>?_) (fun b o q=>by rw [aw (aK q hT)];exact q) (fun b hb n=>by rw [aw (Hq hb)];exact n) fun b o n q=>?_
   ·simp at hc
    exact b2.extBut b o hc.1 (a5 b o hc.1 hc.2 q)
   ·by_cases eb:b=s.heap.objs.size
    ·subst eb
     rw [ac] at q
     cases q
     refine ⟨aW,[.int i tk,v],.cons ⟨_,rfl⟩ (.cons ru1 .nil),_,b2.extBut _ _ ?_ a3,rfl,_,rfl⟩
     exact fun z=>low e _ he z.symm
    ·rw [aw eb,n] at q
     cases q
  ·refine ⟨⟨_,b1⟩,D9 a2 fun o q=>b2.extBut _ o Jb.symm q⟩
  ·have n:=(hf b hb).1
   have:b≠s.heap.objs.size:=by
    simp at hb
    obtain ⟨_,q1,_⟩:=id h1
    rcases hb with rfl|rfl
    ·exact low _ _ he
    ·exact low _ _ q1
   rw [aw this]
   exact n
 done:=by
  intro X hP hw hK hc i IP s σ H E I hf st hg
  subst hP hw hK
  obtain ⟨xs,hx,hl⟩:=hg
  obtain ⟨⟨old,he⟩,h1⟩:=st
  obtain ⟨its1,rv1,p1,z1⟩:=I.tuple hx
  have e1:=rv1.length
  have isT:s.heap.IsTuple l its1.toArray:=let ⟨o,a,b,n,c⟩:=p1;⟨o,a,b,n,c⟩
  have nl:l≠it:=AO isT h1
  refine uP (I.ok.hd hc) he h1 isT (by simp;lia) fun h' k=>⟨rfl,?_⟩
  obtain ⟨f0,f1,f2,f3,f4,f5⟩:=hf it (by simp)
  exact I.turned (t':=s.toks) (fun b o hb q=>k b o hb q) f0 f1 f3 f4 f5
 self:=fun _ _ _ _ _ st h=>wpAny_pyIter_enum st.1.choose_spec h
section
variable {X:Cx}
inductive sY (K:ZF) (R:It->Hp->Prop) (vs:List V) (H1:Hp):Prop
 | mk (l:_):vs=[.ref l]->(∃ xs,KP K H1 l xs)->R (wx K l) H1->sY K R vs H1
def BN (K:ZF) (ta:TA):TI:=fun σ H R=>ta σ H fun vs H1=>sY K R vs H1
theorem fe {elts:List Expr} {kt:Nat} {tp:Pos} {a:Expr} {ta:TA} {p pos:Pos} (hg:Gl X "enumerate") (hm:X.mg "enumerate"=none) (ha:PA X [a] ta) (hs:starEach [a] X.env=[(false,eval a X.env)]:=by rfl) :
  PI X (.Tuple elts kt tp) (.Call (.Name "enumerate" p) [a] [] pos) (BN X.K ta):=by
 refine ⟨?_⟩
 intro IP s σ H R I h
 refine Call_ (jl I hg hm Mp (HQ (bM (ha pos IP s σ H _ I h) fun us s1 ⟨vs,H1,I1,r1,q1⟩=>?_) hs rfl))
 obtain ⟨l,e,⟨xs,hx⟩,q⟩:=q1
 subst e
 cases r1 with
 | cons r rr=>
  cases rr
  cases r
  obtain ⟨its1,rv1,p1,z1⟩:=I1.tuple hx
  have isT:s1.heap.IsTuple l its1.toArray:=let ⟨o,a,b,n,c⟩:=p1;⟨o,a,b,n,c⟩
  refine PySem.enum_of_tuple isT ?_
  have sz:(s1.heap.push (PySem.tupIt l)).objs.size=s1.heap.objs.size+1:=IF ..
  have a1:IsEnum ((s1.heap.push (PySem.tupIt l)).push (PySem.enumOver s1.heap.objs.size)) (s1.heap.objs.size+1) s1.heap.objs.size 0 .none:=sz ▸ GZ (s1.heap.push (PySem.tupIt l)) rfl
  have a2:((s1.heap.push (PySem.tupIt l)).push (PySem.enumOver s1.heap.objs.size)).IsTupleIter s1.heap.objs.size l 0:=⟨_,GI _ (GZ _ rfl),rfl,rfl⟩
  have a4:∀ b o,s1.heap.get? b=some o->((s1.heap.push (PySem.tupIt l)).push (PySem.enumOver s1.heap.objs.size)).get? b=some o:=fun b o x=>GI _ (GI _ x)
  refine wpAny_pyIter_enum a1 ?_
  refine ⟨_,[s1.heap.objs.size+1,s1.heap.objs.size],_,_,H1,rfl,I1.kept (t':=s1.toks) a4,rm (Nat.ne_of_gt (Ip _)),⟨⟨_,a1⟩,a2⟩,fun b hb=>?_,q⟩
  have hb':s1.heap.objs.size<=b:=by
   simp only [GF,GH,or_false] at hb
   rcases hb with e|e<;>rw [e]
   ·exact Nat.le_add_right _ _
   ·exact GE _
  exact I1.fpOk hb' (I1.hok.fresh hb')
end
theorem dY {K:ZF} {l:Addr} {xs:List V} {g:TG} {tb:TS} {D:dJ} {σ:St} {H:Hp} (Pv:Nat->St->Hp->Prop) (h0:Pv 0 σ H) (hl:∀ i σ H,i<=xs.length->Pv i σ H->KP K H l xs)
  (hs:∀ i x σ H T,xs[i]?=some x->H T=none->Pv i σ H->g (.ref T) σ (aI H T (.tup [.int i,x])) fun σ2 H2=>tb { D with nx:=Pv (i+1),ct:=Pv (i+1),bk:=D.nx } σ2 H2) (hd:∀ σ H,Pv xs.length σ H->D.nx σ H) :
  ∃ W:Nat->Nat->St->Hp->Prop,(∃ m,W 0 m σ H)/\∀ i m σ H,W i m σ H->
   ((wx K l).stop i H/\D.nx σ H)\/((wx K l).go i H/\∃ N:St->Hp->Prop,(∀ σ' H',N σ' H'->∃ m',m' < m/\W (i+1) m' σ' H')/\∀ x H',(wx K l).yld i H x H'->g x σ H' fun σ2 H2=>tb { D with nx:=N,ct:=N,bk:=D.nx } σ2 H2):=by
 refine ⟨fun i m σ H=>m=xs.length - i/\i<=xs.length/\Pv i σ H,⟨xs.length,by simp,Hj _,h0⟩,?_⟩
 rintro i m σ H ⟨rfl,hi,p⟩
 have q:=hl i σ H hi p
 by_cases Je:i < xs.length
 ·refine .inr ⟨⟨xs,xs[i],q,by simp [Je]⟩,Pv (i+1),fun σ' H' p'=>⟨xs.length - (i+1),by lia,rfl,Je,p'⟩,fun v H' y=>?_⟩
  obtain ⟨T,x,e1,hT,e2,hy⟩:=y
  subst e1 e2
  exact hs i x σ H T (hy xs q) hT p
 ·have e:i=xs.length:=by lia
  subst e
  exact .inl ⟨⟨xs,q,GE _⟩,hd σ H p⟩
end L2
namespace L3
open PySem L2
def top (i:Nat):Stmt:=PySem.Challenge.pw_rowsbeneath_k07_one_form.main.body.getD i (.Pass ⟨0,0,0,0⟩)
abbrev gG:Stmt:=top 10
abbrev rn:Stmt:=top 15
abbrev nR:Stmt:=top 16
abbrev mV:Stmt:=top 17
abbrev BP:Stmt:=top 29
abbrev eA:Stmt:=top 40
abbrev js:Stmt:=top 41
abbrev fB:Stmt:=top 42
abbrev ii:Stmt:=top 43
abbrev jt:Stmt:=top 44
abbrev gf:Stmt:=top 45
abbrev ij:Stmt:=top 46
abbrev ju:Stmt:=top 47
abbrev gh:Stmt:=top 48
abbrev jv:Stmt:=top 49
abbrev gH:Stmt:=top 50
abbrev lj:Stmt:=top 51
abbrev lA:Stmt:=top 52
abbrev jw:Stmt:=top 53
abbrev jx:Stmt:=top 54
abbrev lB:Stmt:=top 55
abbrev iS:Stmt:=top 57
abbrev fC:Stmt:=top 59
abbrev lC:Stmt:=top 60
abbrev ik:Stmt:=top 61
abbrev gj:Stmt:=top 62
abbrev il:Stmt:=top 63
abbrev ke:Stmt:=top 64
abbrev nS:Stmt:=top 65
abbrev rq:Stmt:=top 66
abbrev rB:Stmt:=top 67
abbrev nU:Stmt:=top 68
abbrev nV:Stmt:=top 74
abbrev wz:Stmt:=top 75
abbrev BQ:Stmt:=top 76
abbrev im:Stmt:=top 77
abbrev io:Stmt:=top 78
abbrev ip:Stmt:=top 79
abbrev iq:Stmt:=top 80
abbrev lD:Stmt:=top 81
abbrev jy:Stmt:=top 82
abbrev ir:Stmt:=top 83
abbrev iu:Stmt:=top 84
abbrev jz:Stmt:=top 85
abbrev jA:Stmt:=top 86
abbrev iw:Stmt:=top 87
abbrev wB:Stmt:=top 89
abbrev nW:Stmt:=top 90
abbrev wC:Stmt:=top 91
abbrev rC:Stmt:=top 92
abbrev sZ:Stmt:=top 93
abbrev nX:Stmt:=top 94
abbrev rD:Stmt:=top 95
abbrev nY:Stmt:=top 96
abbrev tj:Stmt:=top 97
abbrev rE:Stmt:=top 98
abbrev nZ:Stmt:=top 99
abbrev lE:Stmt:=top 100
abbrev jB:Stmt:=top 101
abbrev jC:Stmt:=top 102
abbrev iy:Stmt:=top 103
abbrev n0:Stmt:=top 104
abbrev lF:Stmt:=top 105
abbrev oa:Stmt:=top 106
abbrev uQ:Stmt:=top 107
def Fn (P:Program) (w:World) (K:ZF) (mg:Str->Option Value) (base:Heap) (x:Str) (k:Nat) (ps:List Str) (sp:Sp):Prop:=
 ∃ (f:Addr) (fd:FuncData),mg x=some (.ref f)/\PySem.W.keepIn K (.ref f)=true/\Ld K fd ps []/\KU P w K mg base bY k f fd ps sp
def Gg (sp:Sp) (t:TA):TE:=fun σ H Q=>t σ H fun vs H1=>sp vs H1 Q E0
variable {sp:Sp} {x:Str} {X:Cx}
theorem am {k:Nat} {ps:List Str} {p pos:Pos} {e:Expr} {es:List Expr} {t:TA} (h:Fn X.prog X.w X.K X.mg X.base x k ps sp) (hr:KY k X.A) (hg:Gl X x) (ha:PA X (e::es) t) (hdb:(x == ("__debug__":Str))=false:=by decide)
  (he:starEach (e::es) X.env=(false,eval e X.env)::starEach es X.env:=by rfl) (hpl:(backTo pos (starEach es X.env)).any (·.1)=false:=by rfl):PE X (.Call (.Name x p) (e::es) [] pos) (Gg sp t):=by
 obtain ⟨f,fd,hm,hk,hb,F⟩:=h
 refine ⟨?_⟩
 intro IP s σ H Q I q
 have ha':PA X (e::es) t:=ha
 refine yW (dvs:=[]) (E:=E0) F hr hg hm hk hb .nil kO ha' hdb he hpl IP s σ H Q I ?_
 show t σ H fun vs H1=>sp (vs++[]) H1 Q E0
 have e2:(fun vs H1=>sp (vs++[]) H1 Q E0)=fun vs H1=>sp vs H1 Q E0:=by
  funext vs H1
  rw [Hw]
 rw [e2]
 exact q
theorem BR {k:Nat} {p pos:Pos} (h:Fn X.prog X.w X.K X.mg X.base x k [] sp) (hr:KY k X.A) (hg:Gl X x) (hdb:(x == ("__debug__":Str))=false:=by decide):PE X (.Call (.Name x p) [] [] pos) (fun _ H Q=>sp [] H Q E0):=by
 obtain ⟨f,fd,hm,hk,hb,F⟩:=h
 refine ⟨?_⟩
 intro IP s σ H Q I q
 exact vX (dvs:=[]) (E:=E0) F hr hg hm hk hb .nil kO hdb IP s σ H Q I q
variable {o:HO} {p:Addr} {H:Hp}
theorem ad (h:H p=none):KO H (aI H p o):=fun b u e=>by rw [aw (aK e h)];exact e
variable {H2:Hp}
theorem bK (hp:H p=none) (s:KO H H2):KO H (aI H2 p o):=fun b u e=>by rw [aw (aK e hp)];exact s b u e
variable {b:Bool} {A B:Prop}
theorem aZ (e:b=false) (h:B):if b=true then A else B:=by rw [e];exact ck h
theorem br (e:b=true) (h:A):if b=true then A else B:=by rw [e];exact pP h
theorem gI {l:List Nat} {i:Nat} (h:i < l.length):nG (S l).cps.toList (i:Int)=some l[i]:=bf (by show l.toArray.toList[i]?=_;simp [h])
theorem Ea:("":Str)=S []:=by decide +kernel
theorem wD (z:Str):z=S z.cps.toList:=by
 show z=⟨z.cps.toList.toArray⟩
 simp
theorem bA (a b:List Nat):S a++S b=S (a++b):=by
 show (⟨(S a).cps++(S b).cps⟩:Str)=⟨(a++b).toArray⟩
 congr 1
 simp [S]
theorem ff:bootBuiltins "isinstance"=some (.builtin "isinstance"):=by decide +kernel
theorem fE:bootBuiltins "list"=some (.type "list"):=by decide +kernel
theorem cb:bootBuiltins "str"=some (.type "str"):=by decide +kernel
theorem rF:bootBuiltins "bool"=some (.type "bool"):=by decide +kernel
theorem cx:bootBuiltins "tuple"=some (.type "tuple"):=by decide +kernel
theorem gJ:bootBuiltins "all"=some (.builtin "all"):=by decide +kernel
structure Bl (mg:Str->Option Value):Prop where
 len:mg "len"=none
 int:mg "int"=none
 max:mg "max"=none
 min:mg "min"=none
 range:mg "range"=none
 isinstance:mg "isinstance"=none
 list:mg "list"=none
 str:mg "str"=none
 bool:mg "bool"=none
 tuple:mg "tuple"=none
 all:mg "all"=none
def oe (x y z:Int):HO:=.lst [.int x,.int y,.int z]
def K3 (H:Hp) (p:Addr):Prop:=∃ x y z:Int,H p=some (oe x y z)
def K8 (p:Addr) (H H':Hp):Prop:=∀ b o,H b=some o->b≠p->H' b=some o
theorem K8.refl (p:Addr) (H:Hp):K8 p H H:=fun _ _ e _=>e
variable {H1:Hp}
theorem K8.trans (a:K8 p H H1) (b:K8 p H1 H2):K8 p H H2:=fun c o e n=>b c o (a c o e n) n
theorem K8.same (a:K8 p H H1) (b:KO H1 H2):K8 p H H2:=fun c o e n=>b c o (a c o e n)
theorem dB (b:KO H H1):K8 p H H1:=fun c o e _=>b c o e
theorem K3.same (a:K3 H p) (b:KO H H1):K3 H1 p:=let ⟨x,y,z,e⟩:=a;⟨x,y,z,b _ _ e⟩
theorem K3.ne {p q:Addr} (a:K3 H p) (h:H q=none):p≠q:=let ⟨_,_,_,e⟩:=a;aK e h
inductive rG (K:ZF) (vs:List V) (H:Hp) (Q:VK) (Z3:XK):Prop
 | mk (a:Addr) (ns:List Int) (k:Int):vs=[.ref a,.int k]->KW K H a (ns.map V.int)->0<=k->(∀ c:Int,Q (.int c) H)->rG K vs H Q Z3
inductive lG (vs:List V) (H:Hp) (Q:VK) (Z3:XK):Prop
 | mk (c:Int):vs=[.int c]->(∀ (p:Addr) H',H p=none->KO H H'->K3 H' p->Q (.ref p) H')->lG vs H Q Z3
inductive eB (vs:List V) (H:Hp) (Q:VK) (Z3:XK):Prop
 | mk (p:Addr) (m:Nat):vs=[.ref p,.int m]->K3 H p->0 < m->m < 18446744073709551616->(∀ (r:Nat) H',r < m->K3 H' p->K8 p H H'->Q (.int r) H')->eB vs H Q Z3
variable {P:Program} {w:World} {K:ZF} {mg:Str->Option Value} {base:Heap} {C fi aS aE aF aO:Addr} {t1 t2 t3 t4 t5 tM:Tok}
theorem BT:ay ["_law_script","_law_k"] ["_law_script","_law_k"] (aj wB):=cH (by decide +kernel)
variable {fd:FuncData} {f:Addr}
theorem zc (F:K7 K "_law_cell" "_law_cell" wB f fd) (T:Bl mg):KU P w K mg base bY 1 f fd ["_law_script","_law_k"] (rG K):=by
 have ZZ:=BT
 walk_at "o"
 ·obtain ⟨a,ns,k,rfl,hS,h0,q⟩:=h
  refine ⟨_,ae (aM (ak dD (pv 1) (aQ bj (by rfl) T.len Hf (aa (pv 0) ab)) (av _)) (ah (ao (aq aL (pv 0) (pv 1) (fun _ _=>rfl)))) aH)
   (ah (ao (ar bW (ar fv ag (pv 1)) ag))),?_⟩
  refine ⟨_,rfl,_,rfl,a,_,rfl,.inl hS,_,_,rfl,rfl,_,rfl,?_⟩
  refine bU (fun h=>?_) (fun h=>?_)
  ·have hl:k < ((ns.map V.int).length:Int):=of_decide_eq_true h
   rw [GC] at hl
   obtain ⟨n,rfl⟩:∃ n:Nat,k=n:=⟨k.toNat,by lia⟩
   have hn:n < ns.length:=by lia
   refine ⟨_,rfl,_,rfl,a,_,_,_,rfl,rfl,hS,bf (v:=.int ns[n]) (by simp [hn]),q _⟩
  ·exact ⟨_,rfl,_,_,rfl,rfl,.inl ⟨by decide,by decide⟩,_,_,rfl,rfl,q _⟩
theorem wE:ay ["_law_cell_here"] ["_law_cell_here"] (aj nW):=cH (by decide +kernel)
theorem uR (F:K7 K "_law_stream" "_law_stream" nW f fd) (T:Bl mg):KU P w K mg base bY 1 f fd ["_law_cell_here"] lG:=by
 have ZZ:=wE
 walk_at "o"
 ·obtain ⟨c,rfl,q⟩:=h
  refine ⟨_,ah (ao (aB (aa (ar fv (pv 0) (aU dX (by rfl) T.int HB (aa (cn DP (pv 0) (ar Bx ag ag) (av _)) ab)))
   (aa (ar eU (pv 0) ag) (aa ag ab))))),?_⟩
  refine ⟨_,rfl,_,rfl,_,_,rfl,rfl,⟨by decide,by decide,by decide⟩,_,_,rfl,rfl,.inr ⟨_,rfl,?_⟩⟩
  refine ⟨_,_,rfl,rfl,.inr (by split<;>decide),_,rfl,_,_,rfl,rfl,(by show (0:Int) < 2147483629;decide),aW,fun l hl=>?_⟩
  exact q l _ hl (ad hl) ⟨_,_,_,ac⟩
theorem Mv:ay ["_law_stream_here","_law_many","_law_digit","_law_number"] ["_law_stream_here","_law_many"] (aj wC):=cH (by decide +kernel)
theorem qe {n m:Int} (hm:0 < m) (h:m < 2 ^ 64):-(2 ^ 64) < n % m/\n % m < 2 ^ 64:=by
 have:=Int.emod_nonneg n (show m≠0 by lia)
 have:=Int.emod_lt_of_pos n hm
 lia
theorem zd (F:K7 K "_law_take" "_law_take" wC f fd):KU P w K mg base bY 1 f fd ["_law_stream_here","_law_many"] eB:=by
 have ZZ:=Mv
 walk_at "o"
 ·obtain ⟨p,m,rfl,⟨x,y,z,hp⟩,m0,m1,q⟩:=h
  have fin:∀ (e x' y' z':Int) H1,0<=e->e < m->K8 p H H1->Q (.int e) (aI H1 p (oe x' y' z')):=fun e x' y' z' H1 h0 h1 b=>by
   have:=q e.toNat (aI H1 p (oe x' y' z')) (by lia) ⟨_,_,_,ac⟩ (fun c o e n=>by rw [aw n];exact b c o e n)
   rw [Int.toNat_of_nonneg h0] at this
   exact this
  have b1:∀ o,K8 p H (aI H p o):=fun o c u e n=>by rw [aw n];exact e
  refine ⟨_,ae (aM (ak kJ (aq aL (pv 0) ag (fun _ _=>rfl)) ag (av _))
    (ae (ap (i:=2) Mv.nd rfl (Or.inl rfl) (ar eU (aq aL (pv 0) ag (fun _ _=>rfl)) (pv 1)))
    (ae (fT (ar wn (aq aL (pv 0) ag (fun _ _=>rfl)) (pv 1)) (vL (pv 0) ag pN))
    (ah (ao (pv 2))))) aH)
   (ae (fT (ar bW (aq aL (pv 0) ag (fun _ _=>rfl)) ag) (vL (pv 0) ag pN))
   (ae (ap (i:=3) Mv.nd rfl (Or.inl rfl) (ar eU (ar bW (ar fv (ar bW (aq aL (pv 0) ag (fun _ _=>rfl)) (ar fv ag (aq aL (pv 0) ag (fun _ _=>rfl)))) ag) ag) ag))
   (ae (ap (i:=3) Mv.nd rfl (Or.inl rfl) (ar eU (ar fv (pv 3) (pv 3)) ag))
   (ah (ao (ar eU (ar yQ (ar eU (ar bW (ar fv (pv 3) (pv 3)) (ar fv ag (aq aL (pv 0) ag (fun _ _=>rfl)))) ag) ag) (pv 1))))))),?_⟩
  refine ⟨_,rfl,p,_,_,_,rfl,rfl,KW.of hp,rfl,_,_,rfl,rfl,_,rfl,?_⟩
  refine bU (fun h=>?_) (fun h=>?_)
  ·refine ⟨_,rfl,p,_,_,_,rfl,rfl,KW.of hp,rfl,_,rfl,_,_,rfl,rfl,(by show (0:Int) < (m:Int);lia),?_⟩
   refine ⟨_,rfl,p,_,_,_,rfl,rfl,KW.of hp,rfl,_,rfl,_,_,rfl,rfl,⟨by show (0:Int) < (m:Int);lia,by show (m:Int) < 18446744073709551616;lia⟩,?_⟩
   refine ⟨_,rfl,p,_,_,_,rfl,rfl,hp,rfl,?_⟩
   refine ⟨_,rfl,?_⟩
   exact fin _ _ _ _ _ (Int.emod_nonneg _ (by lia)) (Int.emod_lt_of_pos _ (by lia)) (K8.refl _ _)
  ·refine ⟨_,rfl,p,_,_,_,rfl,rfl,KW.of hp,rfl,_,_,rfl,rfl,?_⟩
   refine ⟨_,rfl,p,_,_,_,rfl,rfl,hp,rfl,?_⟩
   refine ⟨_,rfl,p,_,_,_,rfl,rfl,KW.of ac,rfl,_,rfl,p,_,_,_,rfl,rfl,KW.of ac,rfl,_,_,rfl,rfl,.inl ⟨by decide,by decide⟩,_,_,rfl,rfl,_,_,rfl,rfl,.inr ⟨by decide,by decide⟩,_,_,rfl,rfl,_,_,rfl,rfl,(by show (0:Int) < 2147483647;decide),?_⟩
   refine ⟨_,rfl,_,rfl,_,_,rfl,rfl,.inl (qe (by decide) (by decide)),_,_,rfl,rfl,(by show (0:Int) < 2147483629;decide),?_⟩
   refine ⟨_,rfl,_,rfl,_,_,rfl,rfl,.inl (qe (by decide) (by decide)),_,rfl,p,_,_,_,rfl,rfl,KW.of ac,rfl,_,_,rfl,rfl,.inl ⟨by decide,by decide⟩,_,_,rfl,rfl,_,_,rfl,rfl,(by show (0:Int) < 2147483587;decide),_,_,rfl,rfl,⟨by decide,by decide⟩,_,rfl,_,_,rfl,rfl,(by show (0:Int) < (m:Int);lia),?_⟩
   exact fin _ _ _ _ _ (Int.emod_nonneg _ (by lia)) (Int.emod_lt_of_pos _ (by lia)) (K8.refl _ _)
def ai (l:List Str):List V:=l.map V.str
def dz (P:Program) (w:World) (K:ZF) (mg:Str->Option Value) (base:Heap) (C:Addr) (nm:Str) (n:Nat) (ps:List Str) (sp:Sp):Prop:=∃ f fd,yT K C nm f/\KU P w K mg base bY n f fd ps sp/\Ld K fd ps []
def yH (l:Addr) (k:Nat) (me:Bool):List (Str×V):=[("tokens",.ref l),("spot",.int k),("may_end",.bl me)]
structure Lb (C:Addr) (H:Hp) (a l:Addr) (ts:List Str) (k:Nat) (me:Bool):Prop where
 ob:∃ dx,H a=some (.ins C dx (yH l k me))
 tk:H l=some (.lst (ai (ts++[("":Str)])))
 le:ts.length<=1500
def K0 (a:Addr) (H H':Hp):Prop:=∀ b o,H b=some o->b≠a->H' b=some o
theorem K0.refl (p:Addr) (H:Hp):K0 p H H:=fun _ _ e _=>e
theorem K0.trans (a:K0 p H H1) (b:K0 p H1 H2):K0 p H H2:=fun c o e n=>b c o (a c o e n) n
theorem K0.same (a:K0 p H H1) (b:KO H1 H2):K0 p H H2:=fun c o e n=>b c o (a c o e n)
theorem bO (b:KO H H1):K0 p H H1:=fun c o e _=>b c o e
variable {me:Bool} {ts:List Str}
theorem Lb.same {H H':Hp} {a l:Addr} {k:Nat} (h:Lb C H a l ts k me) (s:KO H H'):Lb C H' a l ts k me:=⟨let ⟨dx,e⟩:=h.ob;⟨dx,s _ _ e⟩,s _ _ h.tk,h.le⟩
theorem Lb.ne {a l:Addr} {k:Nat} (h:Lb C H a l ts k me):l≠a:=by
 rintro rfl
 obtain ⟨dx,e⟩:=h.ob
 rw [h.tk] at e
 cases e
structure Rc (K:ZF) (C:Addr):Prop where
 cl:MW K C
 n1:Lc K C "tokens"
 n2:Lc K C "spot"
 n3:Lc K C "may_end"
inductive rH (C:Addr) (vs:List V) (H:Hp) (Q:VK) (Z3:XK):Prop
 | mk (a l ts k me z:_):vs=[.ref a]->Lb C H a l ts k me->(ts++[("":Str)])[k]?=some z->Q (.str z) H->rH C vs H Q Z3
inductive BU (C:Addr) (vs:List V) (H:Hp) (Q:VK) (Z3:XK):Prop
 | mk (a l ts k me z:_):vs=[.ref a]->Lb C H a l ts k me->(ts++[("":Str)])[k]?=some z->(∀ H',Lb C H' a l ts (k+1) me->K0 a H H'->Q (.str z) H')->BU C vs H Q Z3
inductive rJ (K:ZF) (C:Addr) (vs:List V) (H:Hp) (Q:VK) (Z3:XK):Prop
 | mk (a l ts k me z p xs:_):vs=[.ref a,.ref p]->Lb C H a l ts k me->(ts++[("":Str)])[k]?=some z->(KW K H p (ai xs)\/KP K H p (ai xs))->z∈xs->(∀ H',Lb C H' a l ts (k+1) me->K0 a H H'->Q (.str z) H')->rJ K C vs H Q Z3
abbrev wF:Stmt:=db eA 1
abbrev FG:Stmt:=db eA 2
abbrev wG:Stmt:=db eA 3
theorem wH {k:Nat} {z:Str} (h:(ts++[("":Str)])[k]?=some z):(ai (ts++[("":Str)]))[k]?=some (.str z):=by unfold ai;rw [GY,h];rfl
theorem c7 (x:Str) (l:List Str):iH (.str x) (ai l)=l.contains x:=by
 unfold iH ai
 rw [List.any_map,HG,List.any_eq_true,Hh]
 constructor
 ·rintro ⟨y,hy,e⟩
  have:y=x:=by simpa [uG] using e
  rw [<-this]
  exact hy
 ·intro hx
  exact ⟨x,hx,by simp [uG]⟩
theorem dZ (l:List Str):(ai l).all gY=true:=by
 unfold ai
 rw [List.all_map,Ht]
 intro x _
 rfl
theorem BV:ay ["self"] ["self"] (aj wF):=cH (by decide +kernel)
theorem ze (F:K7 K "look" "Reader.look" wF f fd) (T:Rc K C):KU P w K mg base bY 1 f fd ["self"] (rH C):=by
 have ZZ:=BV
 walk_at "o"
 ·obtain ⟨a,l,ts,k,me,z,rfl,hR,hz,q⟩:=h
  refine ⟨_,ah (ao (aq aL (bH (pv 0) rfl) (bH (pv 0) rfl) (fun _ _=>rfl))),?_⟩
  obtain ⟨dx,ho⟩:=hR.ob
  exact ⟨_,rfl,a,C,dx,_,_,rfl,ho,T.cl,T.n1,rfl,_,rfl,a,C,dx,_,_,rfl,ho,T.cl,T.n2,rfl,l,_,_,_,rfl,rfl,KW.of hR.tk,bf (wH hz),q⟩
theorem FH:ay ["self"] ["self"] (aj FG):=cH (by decide +kernel)
theorem Eb (F:K7 K "take" "Reader.take" FG f fd) (T:Rc K C):KU P w K mg base bY 1 f fd ["self"] (BU C):=by
 have ZZ:=FH
 walk_at "o"
 ·obtain ⟨a,l,ts,k,me,z,rfl,hR,hz,q⟩:=h
  refine ⟨_,ae (mK (pv 0) ag vW) (ah (ao (aq aL (bH (pv 0) rfl) (ar eR (bH (pv 0) rfl) ag) (fun _ _=>rfl)))),?_⟩
  obtain ⟨dx,ho⟩:=hR.ob
  refine ⟨_,rfl,a,C,dx,_,_,rfl,ho,T.cl,T.n2,rfl,_,_,rfl,rfl,dx,_,ho,(by show 3 < 1000;decide),?_⟩
  have e1:(aI H a (.ins C dx (aP "spot" (.int ((k:Int)+1)) (yH l k me)))) a=some (.ins C dx (yH l (k+1) me)):=by rw [ac];rfl
  have e2:(aI H a (.ins C dx (aP "spot" (.int ((k:Int)+1)) (yH l k me)))) l=some (.lst (ai (ts++[("":Str)]))):=by rw [aw hR.ne];exact hR.tk
  have b2:K0 a H (aI H a (.ins C dx (aP "spot" (.int ((k:Int)+1)) (yH l k me)))):=fun b o e n=>by rw [aw n];exact e
  generalize aI H a (.ins C dx (aP "spot" (.int ((k:Int)+1)) (yH l k me)))=H1 at *
  refine ⟨_,rfl,a,C,dx,_,_,rfl,e1,T.cl,T.n1,rfl,_,rfl,a,C,dx,_,_,rfl,e1,T.cl,T.n2,rfl,_,_,rfl,rfl,l,_,_,_,rfl,rfl,KW.of e2,?_,q _ ⟨⟨dx,e1⟩,e2,hR.le⟩ b2⟩
  have:(((k+1:Nat):Int) - 1)=(k:Int):=by lia
  rw [this]
  exact bf (wH hz)
structure Rm (P:Program) (w:World) (K:ZF) (mg:Str->Option Value) (base:Heap) (C:Addr):Prop extends Rc K C where
 look:dz P w K mg base C "look" 1 ["self"] (rH C)
 take:dz P w K mg base C "take" 1 ["self"] (BU C)
theorem BW:ay ["self","words"] ["self","words"] (aj wG):=cH (by decide +kernel)
theorem zf (F:K7 K "need" "Reader.need" wG f fd) (T:Rm P w K mg base C):KU P w K mg base bY 2 f fd ["self","words"] (rJ K C):=by
 have ZZ:=BW
 walk_at "o"
 ·obtain ⟨a,l,ts,k,me,z,p,xs,rfl,hR,hz,hp,hm,q⟩:=h
  have IS:KY 1 _:=hr
  refine ⟨_,ae (aM (ak fw (KR (pv 0)) (pv 1) rfl) (ah cN) aH) (ah (ao (KR (pv 0)))),?_⟩
  obtain ⟨dx,ho⟩:=hR.ob
  obtain ⟨f1,IV,M1,F1,B1⟩:=T.look
  obtain ⟨f2,fd2,M2,F2,B2⟩:=T.take
  refine ⟨_,rfl,a,dx,C,f1,_,IV,1,["self"],_,rfl,ho,rfl,T.cl,M1,F1,IS,B1,a,l,ts,k,me,z,rfl,hR,hz,_,rfl,p,ai xs,rfl,?_,rfl,dZ _,_,rfl,aZ ?_ ?_⟩
  ·exact hp
  ·show (!iH (.str z) (ai xs))=false
   rw [c7,Hh.mpr hm]
   rfl
  ·exact ⟨_,rfl,a,dx,C,f2,_,fd2,1,["self"],_,rfl,ho,rfl,T.cl,M2,F2,IS,B2,a,l,ts,k,me,z,rfl,hR,hz,q⟩
abbrev tz (ts:List Str):List Str:=ts++[("":Str)]
def LH:List Str:=["word","cells","depth","places","marks","gate","kind","place","mark","number","row","set","if","else","top","next","go","call","back","stop","fault","bell"]
def K4 (z:Str):Prop:=z∉LH/\1<=z.length/\z.length<=8/\∀ c∈z.cps.toList,97<=c/\c<=122
inductive BX (vs:List V) (H:Hp) (Q:VK) (Z3:XK):Prop
 | mk (z:_):vs=[.str z]->K4 z->(∀ H',KO H H'->Q (.bl true) H')->BX vs H Q Z3
inductive og (vs:List V) (H:Hp) (Q:VK) (Z3:XK):Prop
 | mk (n:Nat):vs=[.str (toString (n:Int):Str)]->n < 1000000000->(∀ H',KO H H'->Q (.int n) H')->og vs H Q Z3
inductive oh (vs:List V) (H:Hp) (Q:VK) (Z3:XK):Prop
 | mk (i:Int):vs=[.int i]->Q (.bl true) H->oh vs H Q Z3
inductive lH (vs:List V) (H:Hp) (Q:VK) (Z3:XK):Prop
 | mk (i lo hi:Int):vs=[.int i,.int lo,.int hi]->lo<=i->i<=hi->Q (.bl true) H->lH vs H Q Z3
inductive iz (C:Addr) (vs:List V) (H:Hp) (Q:VK) (Z3:XK):Prop
 | mk (a l ts k me z:_):vs=[.ref a]->Lb C H a l ts k me->(tz ts)[k]?=some z->K4 z->(∀ H',Lb C H' a l ts (k+1) me->K0 a H H'->Q (.str z) H')->iz C vs H Q Z3
inductive fF (C:Addr) (vs:List V) (H:Hp) (Q:VK) (Z3:XK):Prop
 | mk (a l ts k me:_) (n lo hi:Nat):vs=[.ref a,.int lo,.int hi]->Lb C H a l ts k me->(tz ts)[k]?=some (toString (n:Int):Str)->n < 1000000000->lo<=n->n<=hi->(∀ H',Lb C H' a l ts (k+1) me->K0 a H H'->Q (.int n) H')->fF C vs H Q Z3
inductive jD (C:Addr) (vs:List V) (H:Hp) (Q:VK) (Z3:XK):Prop
 | mk (a l ts k:_):vs=[.ref a]->Lb C H a l ts k true->k=ts.length->Q .non H->jD C vs H Q Z3
abbrev jE:Stmt:=db eA 4
abbrev gk:Stmt:=db eA 5
abbrev lI:Stmt:=db eA 6
theorem zg:ay ["thing"] ["thing"] (aj rn):=cH (by decide +kernel)
theorem wI (F:K7 K "is_whole" "is_whole" rn f fd) (T:Bl mg):KU P w K mg base bY 1 f fd ["thing"] oh:=by
 have ZZ:=zg
 walk_at "o"
 ·obtain ⟨i,rfl,q⟩:=h
  refine ⟨_,ah (ao (hI (aQ (kX (T:="int")) (by rfl) T.isinstance ff (aa (pv 0) (aa (Mi (by rfl) T.int HB) ab))) (gZ (Br (aQ (kX (T:="bool")) (by rfl) T.isinstance ff (aa (pv 0) (aa (Mi (by rfl) T.bool rF) ab))))))),?_⟩
  exact ⟨_,rfl,_,_,_,rfl,.int _,rfl,_,rfl,pP ⟨_,rfl,_,_,_,rfl,.int _,rfl,_,rfl,q⟩⟩
theorem wJ:ay ["thing","low","high"] ["thing","low","high"] (aj nR):=cH (by decide +kernel)
theorem uS (F:K7 K "is_within" "is_within" nR f fd) (WH:Fn P w K mg base "is_whole" 1 ["thing"] oh):KU P w K mg base bY 2 f fd ["thing","low","high"] lH:=by
 have ZZ:=wJ
 walk_at "o"
 ·obtain ⟨i,lo,hi,rfl,h1,h2,q⟩:=h
  refine ⟨_,ah (ao (hI (am WH hr rfl (aa (pv 0) ab)) (gZ (kK iK iK (pv 1) (pv 0) (pv 2))))),?_⟩
  refine ⟨_,rfl,i,rfl,_,rfl,pP ⟨_,rfl,_,rfl,_,_,rfl,rfl,_,rfl,br (decide_eq_true h1) ⟨_,rfl,_,_,rfl,rfl,?_⟩⟩⟩
  show Q (V.bl (decide (i<=hi))) H
  rw [decide_eq_true h2]
  exact q
theorem rK:ay ["self"] ["self"] (aj jE):=cH (by decide +kernel)
theorem qf (F:K7 K "need_name" "Reader.need_name" jE f fd) (T:Rm P w K mg base C) (NM:Fn P w K mg base "is_name" 1 ["thing"] BX):KU P w K mg base bY 2 f fd ["self"] (iz C):=by
 have ZZ:=rK
 walk_at "o"
 ·obtain ⟨a,l,ts,k,me,z,rfl,hR,hz,hn,q⟩:=h
  have IS:KY 1 _:=hr
  refine ⟨_,ae (aM (eP (dA (am NM IS rfl (aa (KR (pv 0)) ab)))) (ah cN) aH) (ah (ao (KR (pv 0)))),?_⟩
  obtain ⟨dx,ho⟩:=hR.ob
  obtain ⟨f1,IV,M1,F1,B1⟩:=T.look
  obtain ⟨f2,fd2,M2,F2,B2⟩:=T.take
  refine ⟨_,rfl,a,dx,C,f1,_,IV,1,["self"],_,rfl,ho,rfl,T.cl,M1,F1,IS,B1,a,l,ts,k,me,z,rfl,hR,hz,z,rfl,hn,fun H1 s1=>⟨_,rfl,ck ?_⟩⟩
  exact ⟨_,rfl,a,dx,C,f2,_,fd2,1,["self"],_,rfl,s1 _ _ ho,rfl,T.cl,M2,F2,IS,B2,a,l,ts,k,me,z,rfl,hR.same s1,hz,fun H2 r2 b2=>q H2 r2 ((bO s1).trans b2)⟩
theorem LL:ay ["self","low","high","number"] ["self","low","high"] (aj gk):=cH (by decide +kernel)
theorem mB (F:K7 K "need_number" "Reader.need_number" gk f fd) (T:Rm P w K mg base C) (NU:Fn P w K mg base "number_of" 1 ["token"] og) (WI:Fn P w K mg base "is_within" 2 ["thing","low","high"] lH):KU P w K mg base bY 3 f fd ["self","low","high"] (fF C):=by
 have ZZ:=LL
 walk_at "o"
 ·obtain ⟨a,l,ts,k,me,n,lo,hi,rfl,hR,hz,hn,h1,h2,q⟩:=h
  have IS:KY 1 _:=hr.mono (by decide)
  refine ⟨_,ae (ap (i:=3) LL.nd rfl (Or.inl rfl) (am NU IS rfl (aa (KR (pv 0)) ab)))
   (ae (aM (eP (dA (am WI hr rfl (aa (pv 3) (aa (pv 1) (aa (pv 2) ab)))))) (ah cN) aH)
   (ae (mK (pv 0) ag vW) (ah (ao (pv 3))))),?_⟩
  obtain ⟨dx,ho⟩:=hR.ob
  obtain ⟨f1,IV,M1,F1,B1⟩:=T.look
  refine ⟨_,rfl,a,dx,C,f1,_,IV,1,["self"],_,rfl,ho,rfl,T.cl,M1,F1,IS,B1,a,l,ts,k,me,_,rfl,hR,hz,n,rfl,hn,fun H1 s1=>?_⟩
  refine ⟨_,rfl,_,rfl,_,rfl,(n:Int),(lo:Int),(hi:Int),rfl,by lia,by lia,_,rfl,ck ?_⟩
  have hR1:=hR.same s1
  have ho1:=s1 _ _ ho
  refine ⟨_,rfl,a,C,dx,_,_,rfl,ho1,T.cl,T.n2,rfl,_,_,rfl,rfl,dx,_,ho1,(by show 3 < 1000;decide),?_⟩
  have e1:(aI H1 a (.ins C dx (aP "spot" (.int ((k:Int)+1)) (yH l k me)))) a=some (.ins C dx (yH l (k+1) me)):=by rw [ac];rfl
  have e2:(aI H1 a (.ins C dx (aP "spot" (.int ((k:Int)+1)) (yH l k me)))) l=some (.lst (ai (ts++[("":Str)]))):=by rw [aw hR.ne];exact hR1.tk
  exact ⟨_,rfl,q _ ⟨⟨dx,e1⟩,e2,hR.le⟩ (fun b o e n=>by rw [aw n];exact s1 _ _ e)⟩
theorem uT:ay ["self"] ["self"] (aj lI):=cH (by decide +kernel)
theorem rL (F:K7 K "need_end" "Reader.need_end" lI f fd) (T:Rm P w K mg base C) (B:Bl mg):KU P w K mg base bY 1 f fd ["self"] (jD C):=by
 have ZZ:=uT
 walk_at "o"
 ·obtain ⟨a,l,ts,k,rfl,hR,hk,q⟩:=h
  refine ⟨_,ah (aM (PW.pt (fL (eP (dA (bH (pv 0) rfl))) (dL (ak dD (ar bW (bH (pv 0) rfl) ag) (aQ bj (by rfl) B.len Hf (aa (bH (pv 0) rfl) ab)) (av _))))) (ah cN) aH),?_⟩
  obtain ⟨dx,ho⟩:=hR.ob
  refine ⟨_,rfl,a,C,dx,_,_,rfl,ho,T.cl,T.n3,rfl,_,rfl,ck ?_⟩
  refine ⟨_,rfl,a,C,dx,_,_,rfl,ho,T.cl,T.n2,rfl,_,_,rfl,rfl,_,rfl,a,C,dx,_,_,rfl,ho,T.cl,T.n1,rfl,l,_,rfl,.inl (KW.of hR.tk),_,_,rfl,rfl,_,rfl,aZ (decide_eq_false ?_) q⟩
  unfold ai
  rw [GC,Gy]
  simp
  lia
structure qO (P:Program) (w:World) (K:ZF) (mg:Str->Option Value) (base:Heap) (C:Addr):Prop extends Rm P w K mg base C where
 need:dz P w K mg base C "need" 2 ["self","words"] (rJ K C)
 nname:dz P w K mg base C "need_name" 2 ["self"] (iz C)
 nnum:dz P w K mg base C "need_number" 3 ["self","low","high"] (fF C)
 nend:dz P w K mg base C "need_end" 1 ["self"] (jD C)
inductive jF (C:Addr) (vs:List V) (H:Hp) (Q:VK) (Z3:XK):Prop
 | mk (a l ts k me wd:_) (n lo hi:Nat):vs=[.ref a,.str wd,.int lo,.int hi]->Lb C H a l ts k me->(tz ts)[k]?=some wd->(tz ts)[k+1]?=some (toString (n:Int):Str)->(tz ts)[k+2]?=some ";"->n < 1000000000->lo<=n->n<=hi->(∀ H',Lb C H' a l ts (k+3) me->K0 a H H'->Q (.int n) H')->jF C vs H Q Z3
def qh (ts:List Str) (k:Nat) (zs:List Str):Prop:=∀ i (h:i < zs.length),(tz ts)[k+i]?=some zs[i]/\K4 zs[i]
inductive oj (C:Addr) (vs:List V) (H:Hp) (Q:VK) (Z3:XK):Prop
 | mk (a l ts k me wd zs:_) (lo hi:Nat):vs=[.ref a,.str wd,.int lo,.int hi]->Lb C H a l ts k me->(tz ts)[k]?=some wd->qh ts (k+1) zs->(tz ts)[k+1+zs.length]?=some ";"->lo<=zs.length->zs.length<=hi->hi<=10->(∀ p H',Lb C H' a l ts (k+2+zs.length) me->K0 a H H'->H p=none->H' p=some (.tup (ai zs))->Q (.ref p) H')->oj C vs H Q Z3
theorem Mm:ay ["reader","word","low","high","number"] ["reader","word","low","high"] (aj fB):=cH (by decide +kernel)
theorem rM (F:K7 K "read_bounded" "read_bounded" fB f fd) (T:qO P w K mg base C):KU P w K mg base bY 4 f fd ["reader","word","low","high"] (jF C):=by
 have ZZ:=Mm
 walk_at "o"
 ·obtain ⟨a,l,ts,k,me,wd,n,lo,hi,rfl,hR,t0,t1,t2,hn,h1,h2,q⟩:=h
  have IU:KY 2 _:=hr.mono (by decide)
  refine ⟨_,ae (aN (KZ (pv 0) (aa (aC (aa (pv 1) ab)) ab)))
   (ae (ap (i:=4) Mm.nd rfl (Or.inl rfl) (KZ (pv 0) (aa (pv 2) (aa (pv 3) ab))))
   (ae (aN (KZ (pv 0) (aa (aC (aa af ab)) ab)))
   (ah (ao (pv 4))))),?_⟩
  obtain ⟨f1,IV,M1,F1,B1⟩:=T.need
  obtain ⟨f2,fd2,M2,F2,B2⟩:=T.nnum
  obtain ⟨dx,ho⟩:=hR.ob
  refine ⟨_,rfl,a,dx,C,f1,_,IV,2,["self","words"],_,rfl,ho,rfl,T.cl,M1,F1,IU,B1,_,rfl,aW,fun p1 n1=>?_⟩
  have s1:=ad (o:=.tup [.str wd]) n1
  refine ⟨a,l,ts,k,me,wd,p1,[wd],rfl,hR.same s1,t0,(.inr (KP.of ac)),by simp,fun H1 r1 b1=>?_⟩
  obtain ⟨dx1,ho1⟩:=r1.ob
  refine ⟨_,rfl,a,dx1,C,f2,_,fd2,3,["self","low","high"],_,rfl,ho1,rfl,T.cl,M2,F2,hr,B2,_,rfl,_,rfl,a,l,ts,k+1,me,n,lo,hi,rfl,r1,t1,hn,h1,h2,fun H2 r2 b2=>?_⟩
  obtain ⟨dx2,ho2⟩:=r2.ob
  refine ⟨_,rfl,a,dx2,C,f1,_,IV,2,["self","words"],_,rfl,ho2,rfl,T.cl,M1,F1,IU,B1,aW,fun p2 n2=>?_⟩
  have s2:=ad (o:=.tup [.str ";"]) n2
  refine ⟨a,l,ts,k+2,me,";",p2,[";"],rfl,r2.same s2,t2,(.inr (KP.of ac)),by simp,fun H3 r3 b3=>?_⟩
  exact ⟨_,rfl,q H3 r3 (((bO s1).trans (b1.trans b2)).trans ((bO s2).trans b3))⟩
theorem MR:ay ["reader","word","least","most","names"] ["reader","word","least","most"] (aj ii):=cH (by decide +kernel)
theorem wK (F:K7 K "read_names" "read_names" ii f fd) (T:qO P w K mg base C) (B:Bl mg):KU P w K mg base bY 3 f fd ["reader","word","least","most"] (oj C):=by
 have ZZ:=MR
 walk_at "o"
 ·obtain ⟨a,l,ts,k,me,wd,zs,lo,hi,rfl,hR,t0,tn,te,h1,h2,h10,q⟩:=h
  have IS:KY 1 _:=hr.mono (by decide)
  refine ⟨_,ae (aN (KZ (pv 0) (aa (aC (aa (pv 1) ab)) ab)))
   (ae (ap (i:=4) MR.nd rfl (Or.inl rfl) (aB ab))
   (ae (fb PassesOwn.never (PW.pt (fL (ak dD (aQ bj (by rfl) B.len Hf (aa (pv 4) ab)) (pv 2) (av _)) (dL (PW.pt (bZ (ak dD (aQ bj (by rfl) B.len Hf (aa (pv 4) ab)) (pv 3) (av _)) (bJ (ak pI (KR (pv 0)) af (av _))))))))
    (ah (aN (b9 GS GR GQ bq (pv 4) (aa (KR (pv 0)) ab)))))
   (ae (aN (KZ (pv 0) (aa (aC (aa af ab)) ab)))
   (ah (ao (aU bX (by rfl) B.tuple cx (aa (pv 4) ab))))))),?_⟩
  obtain ⟨f1,IV,M1,F1,B1⟩:=T.need
  obtain ⟨f2,fd2,M2,F2,B2⟩:=T.nname
  obtain ⟨f3,fd3,M3,F3,B3⟩:=T.look
  obtain ⟨dx,ho⟩:=hR.ob
  have sz:(1000:Nat)<=sizeLine:=by decide
  refine ⟨_,rfl,a,dx,C,f1,_,IV,2,["self","words"],_,rfl,ho,rfl,T.cl,M1,F1,hr,B1,_,rfl,aW,fun p1 n1=>?_⟩
  have s1:=ad (o:=.tup [.str wd]) n1
  refine ⟨a,l,ts,k,me,wd,p1,[wd],rfl,hR.same s1,t0,(.inr (KP.of ac)),by simp,fun H1 r1 b1=>?_⟩
  have c1:K0 a H H1:=(bO s1).trans b1
  refine ⟨aW,fun ln nn=>?_⟩
  have s2:=ad (o:=.lst []) nn
  have e2:(aI H1 ln (.lst [])) ln=some (.lst (ai [])):=ac
  have r2:=r1.same s2
  have c2:=c1.same s2
  have nH:H ln=none:=by
   by_cases hh:ln=a
   ·subst hh
    obtain ⟨dx1,ho1⟩:=r1.ob
    rw [ho1] at nn
    cases nn
   ·cases hx:H ln with
    | none=>rfl
    | some o=>
     have:=c1 _ _ hx hh
     rw [nn] at this
     cases this
  have lna:ln≠a:=by
   rintro rfl
   rw [nH] at ho
   cases ho
  have lnl:ln≠l:=fun z=>by
   have:=hR.tk
   rw [<-z,nH] at this
   cases this
  generalize aI H1 ln (.lst ([]:List V))=H2 at *
  refine ⟨fun m σ H'=>∃ i,i<=zs.length/\m=zs.length - i/\σ=[some (.ref a),some (.str wd),some (.int lo),some (.int hi),some (.ref ln)]/\Lb C H' a l ts (k+1+i) me/\K0 a H H'/\H' ln=some (.lst (ai (zs.take i))),⟨_,0,Hj _,rfl,rfl,r2,c2,e2⟩,?_⟩
  rintro m σ H3 ⟨i,hi3,rfl,rfl,r3,c3,e3⟩
  have lt:(ai (zs.take i)).length=i:=by
   unfold ai
   rw [GC,GG]
   lia
  obtain ⟨dx3,ho3⟩:=r3.ob
  by_cases Je:i < zs.length
  ·obtain ⟨tz1,nm1⟩:=tn i Je
   have tk1:zs.take (i+1)=zs.take i++[zs[i]]:=by rw [GX,GJ Je];rfl
   have nsc:zs[i]≠(";":Str):=by
    intro z
    obtain ⟨_,_,_,hc⟩:=nm1
    rw [z] at hc
    exact absurd (hc 59 (by decide +kernel)) (by lia)
   by_cases hlo:i < lo
   ·refine ⟨_,rfl,ln,_,rfl,.inl (KW.of e3),_,rfl,_,_,rfl,rfl,_,rfl,br (decide_eq_true (by rw [lt];lia)) ?_⟩
    refine ⟨fun σ' H'=>∃ i',i'=i+1/\σ'=[some (.ref a),some (.str wd),some (.int lo),some (.int hi),some (.ref ln)]/\Lb C H' a l ts (k+1+i') me/\K0 a H H'/\H' ln=some (.lst (ai (zs.take i'))),fun σ' H' ⟨i',e',a1,a2,a3,a4⟩=>⟨zs.length - i',by lia,i',by lia,rfl,a1,a2,a3,a4⟩,?_⟩
    refine ⟨_,rfl,.inl ⟨rfl,_,KW.of e3⟩,_,rfl,a,dx3,C,f2,_,fd2,2,["self"],_,rfl,ho3,rfl,T.cl,M2,F2,hr,B2,a,l,ts,k+1+i,me,zs[i],rfl,r3,tz1,nm1,fun H4 r4 b4=>?_⟩
    have e4:=b4 _ _ e3 lna
    refine ⟨ln,_,_,rfl,rfl,e4,by rw [lt];lia,i+1,rfl,rfl,?_,?_,?_⟩
    ·refine ⟨?_,?_,r4.le⟩
     ·obtain ⟨dx4,ho4⟩:=r4.ob
      exact ⟨dx4,by rw [aw lna.symm];exact ho4⟩
     ·rw [aw lnl.symm]
      exact r4.tk
    ·intro b o e nb
     by_cases hbl:b=ln
     ·rw [hbl,nH] at e
      cases e
     ·rw [aw hbl]
      exact b4 _ _ (c3 _ _ e nb) nb
    ·rw [ac,tk1]
     unfold ai
     rw [GK]
     rfl
   ·refine ⟨_,rfl,ln,_,rfl,.inl (KW.of e3),_,rfl,_,_,rfl,rfl,_,rfl,aZ (decide_eq_false (by rw [lt];lia)) ?_⟩
    refine ⟨_,rfl,ln,_,rfl,.inl (KW.of e3),_,rfl,_,_,rfl,rfl,_,rfl,br (decide_eq_true (by rw [lt];lia)) ?_⟩
    refine ⟨_,rfl,a,dx3,C,f3,_,fd3,1,["self"],_,rfl,ho3,rfl,T.cl,M3,F3,IS,B3,a,l,ts,k+1+i,me,zs[i],rfl,r3,tz1,rfl,_,rfl,br (by simpa using nsc) ?_⟩
    refine ⟨fun σ' H'=>∃ i',i'=i+1/\σ'=[some (.ref a),some (.str wd),some (.int lo),some (.int hi),some (.ref ln)]/\Lb C H' a l ts (k+1+i') me/\K0 a H H'/\H' ln=some (.lst (ai (zs.take i'))),fun σ' H' ⟨i',e',a1,a2,a3,a4⟩=>⟨zs.length - i',by lia,i',by lia,rfl,a1,a2,a3,a4⟩,?_⟩
    refine ⟨_,rfl,.inl ⟨rfl,_,KW.of e3⟩,_,rfl,a,dx3,C,f2,_,fd2,2,["self"],_,rfl,ho3,rfl,T.cl,M2,F2,hr,B2,a,l,ts,k+1+i,me,zs[i],rfl,r3,tz1,nm1,fun H4 r4 b4=>?_⟩
    have e4:=b4 _ _ e3 lna
    refine ⟨ln,_,_,rfl,rfl,e4,by rw [lt];lia,i+1,rfl,rfl,?_,?_,?_⟩
    ·refine ⟨?_,?_,r4.le⟩
     ·obtain ⟨dx4,ho4⟩:=r4.ob
      exact ⟨dx4,by rw [aw lna.symm];exact ho4⟩
     ·rw [aw lnl.symm]
      exact r4.tk
    ·intro b o e nb
     by_cases hbl:b=ln
     ·rw [hbl,nH] at e
      cases e
     ·rw [aw hbl]
      exact b4 _ _ (c3 _ _ e nb) nb
    ·rw [ac,tk1]
     unfold ai
     rw [GK]
     rfl
  ·have hie:i=zs.length:=by lia
   have te':(tz ts)[k+1+i]?=some ";":=by rw [hie];exact te
   have ztk:ai (zs.take i)=ai zs:=by rw [hie,GV]
   by_cases hhi:i < hi
   ·refine ⟨_,rfl,ln,_,rfl,.inl (KW.of e3),_,rfl,_,_,rfl,rfl,_,rfl,aZ (decide_eq_false (by rw [lt];lia)) ?_⟩
    refine ⟨_,rfl,ln,_,rfl,.inl (KW.of e3),_,rfl,_,_,rfl,rfl,_,rfl,br (decide_eq_true (by rw [lt];lia)) ?_⟩
    refine ⟨_,rfl,a,dx3,C,f3,_,fd3,1,["self"],_,rfl,ho3,rfl,T.cl,M3,F3,IS,B3,a,l,ts,k+1+i,me,";",rfl,r3,te',rfl,_,rfl,aZ (by simp) ?_⟩
    refine ⟨_,rfl,a,dx3,C,f1,_,IV,2,["self","words"],_,rfl,ho3,rfl,T.cl,M1,F1,hr,B1,aW,fun p2 n2=>?_⟩
    have s4:=ad (o:=.tup [.str ";"]) n2
    refine ⟨a,l,ts,k+1+i,me,";",p2,[";"],rfl,r3.same s4,te',(.inr (KP.of ac)),by simp,fun H4 r4 b4=>?_⟩
    have e4:=b4 _ _ (s4 _ _ e3) lna
    rw [ztk] at e4
    refine ⟨_,rfl,ln,ai zs,rfl,.inl ⟨KW.of e4,fun p3 n3=>?_⟩⟩
    have s5:=ad (o:=.tup (ai zs)) n3
    have c4:K0 a H H4:=(c3.same s4).trans b4
    refine q p3 _ ?_ (c4.same s5) ?_ ac
    ·have:=r4.same s5
     rw [hie] at this
     have e9:k+1+zs.length+1=k+2+zs.length:=by lia
     rw [e9] at this
     exact this
    ·by_cases h3a:p3=a
     ·subst h3a
      obtain ⟨dx4,ho4⟩:=r4.ob
      rw [ho4] at n3
      cases n3
     ·cases hx:H p3 with
      | none=>rfl
      | some o=>
       have:=c4 _ _ hx h3a
       rw [n3] at this
       cases this
   ·refine ⟨_,rfl,ln,_,rfl,.inl (KW.of e3),_,rfl,_,_,rfl,rfl,_,rfl,aZ (decide_eq_false (by rw [lt];lia)) ?_⟩
    refine ⟨_,rfl,ln,_,rfl,.inl (KW.of e3),_,rfl,_,_,rfl,rfl,_,rfl,aZ (decide_eq_false (by rw [lt];lia)) ?_⟩
    refine ⟨_,rfl,a,dx3,C,f1,_,IV,2,["self","words"],_,rfl,ho3,rfl,T.cl,M1,F1,hr,B1,aW,fun p2 n2=>?_⟩
    have s4:=ad (o:=.tup [.str ";"]) n2
    refine ⟨a,l,ts,k+1+i,me,";",p2,[";"],rfl,r3.same s4,te',(.inr (KP.of ac)),by simp,fun H4 r4 b4=>?_⟩
    have e4:=b4 _ _ (s4 _ _ e3) lna
    rw [ztk] at e4
    refine ⟨_,rfl,ln,ai zs,rfl,.inl ⟨KW.of e4,fun p3 n3=>?_⟩⟩
    have s5:=ad (o:=.tup (ai zs)) n3
    have c4:K0 a H H4:=(c3.same s4).trans b4
    refine q p3 _ ?_ (c4.same s5) ?_ ac
    ·have:=r4.same s5
     rw [hie] at this
     have e9:k+1+zs.length+1=k+2+zs.length:=by lia
     rw [e9] at this
     exact this
    ·by_cases h3a:p3=a
     ·subst h3a
      obtain ⟨dx4,ho4⟩:=r4.ob
      rw [ho4] at n3
      cases n3
     ·cases hx:H p3 with
      | none=>rfl
      | some o=>
       have:=c4 _ _ hx h3a
       rw [n3] at this
       cases this
def iU:List Nat:=(List.range 26).map (97+·)
def zh:Str:="abcdefghijklmnopqrstuvwxyz"
theorem AQ:zh=S iU:=by decide +kernel
theorem tq (c:Nat) (h:97<=c/\c<=122):c∈iU:=by
 unfold iU
 refine G0.mpr ⟨c - 97,HE.mpr (by lia),by lia⟩
structure BY (K:ZF) (mg:Str->Option Value) (aO:Addr) (tL tN:Tok):Prop where
 own:mg "OWN_WORDS"=some (.ref aO)
 sq:∀ H,KP K H aO (ai LH)
 lets:mg "LETTERS"=some (.str zh tL)
 lng:mg "LONGEST_NAME"=some (.int 8 tN)
theorem wL:ay ["thing"] ["thing"] (aj mV):=cH (by decide +kernel)
theorem BZ:(["sign"]:List Str).Nodup:=by decide +kernel
theorem zi {tL tN:Tok} (F:K7 K "is_name" "is_name" mV f fd) (T:Bl mg) (C:BY K mg aO tL tN):KU P w K mg base bY 1 f fd ["thing"] BX:=by
 have ZZ:=wL
 walk_at "o"
 ·obtain ⟨z,rfl,⟨hno,h1,h8,hc⟩,q⟩:=h
  refine ⟨_,ae (aM (PW.pt (fL (eP (dA (aQ (kX (T:="str")) (by rfl) T.isinstance ff (aa (pv 0) (aa (Mi (by rfl) T.str cb) ab)))))
    (dL (ak dh (pv 0) (bx (v:=.ref aO) rfl C.own rfl) rfl)))) (ah (ao jR)) aH)
   (ah (ao (hI (kK iK iK ag (aQ bN (by rfl) T.len Hf (aa (pv 0) ab)) (bx (v:=.int 8) rfl C.lng ⟨_,rfl⟩))
    (gZ (aQ (iQ rfl) (by rfl) T.all gJ (aa (fV (N':=["sign"]) (ix:=[none]) (sc0:=aj mV) (N:=["thing"]) rfl (by decide +kernel) (rf (pv 0))
     (fun C' cl s H fp=>az (i:=0) BZ rfl (Or.inl rfl) (.inr rfl)) (fun _ _ _ _ _=>fU) (fun C' cl s H fp=>cn dW (pv 0) (bx (v:=.str zh) rfl C.lets ⟨_,rfl⟩) rfl)) ab)))))),?_⟩
  have ez:z=S z.cps.toList:=wD z
  have zl:z.length=z.cps.toList.length:=by show z.cps.size=_;simp
  generalize hl:z.cps.toList=l at *
  subst ez
  rw [aG] at h1 h8
  have sz:(100000:Nat)<=sizeLine:=by decide
  refine ⟨_,rfl,_,_,_,rfl,.str _,rfl,_,rfl,ck ?_⟩
  refine ⟨_,rfl,aO,ai LH,rfl,.inr (C.sq H),rfl,dZ _,_,rfl,aZ ?_ ?_⟩
  ·show iH (.str (S l)) (ai LH)=false
   rw [c7]
   exact HV.mpr fun e=>hno (Hh.mp e)
  ·refine ⟨_,rfl,S l,rfl,(by rw [aG];lia),_,_,rfl,rfl,_,rfl,?_⟩
   rw [aG]
   refine br (decide_eq_true (by lia)) ⟨_,_,rfl,rfl,_,rfl,br (decide_eq_true (by lia)) ⟨_,rfl,l,rfl,?_⟩⟩
   refine rh (fun i ys H'=>ys=(List.replicate i true).map V.bl/\KO H H') ⟨rfl,KO.refl _⟩ (fun i ys H' hi ⟨e,_⟩=>by rw [e,GC,Ii];lia) ?_ ?_
   ·rintro i ys H' hi ⟨rfl,s'⟩
    refine ⟨trivial,fW ?_⟩
    refine ⟨_,rfl,S [l[i]],_,rfl,rfl,?_⟩
    rw [AQ,fA,decide_eq_true (tq _ (hc _ (Hv hi)))]
    refine Nx.mk hi ⟨?_,s'⟩
    rw [List.replicate_succ',GK]
    rfl
   ·rintro ys H' ⟨rfl,s'⟩ D hD
    refine ⟨D,List.replicate l.length true,rfl,KW.of ac,?_⟩
    have:=q _ (s'.trans (ad (o:=.lst ((List.replicate l.length true).map V.bl)) hD))
    have ea:(List.replicate l.length true).all id=true:=by simp
    rw [ea]
    exact this
def dg (n:Nat):List Nat:=(Nat.toDigits 10 n).map Char.toNat
variable {n:Nat}
theorem qi (h:n < 10):dg n=[48+n]:=by
 unfold dg
 rw [Nat.toDigits_of_lt_base h]
 have:∀ d:Nat,d < 10->[Nat.digitChar d].map Char.toNat=[48+d]:=by decide
 exact this n h
theorem wM (h:10<=n):dg n=dg (n / 10)++[48+n % 10]:=by
 have hm:n % 10 < 10:=II n (by decide)
 have t:Nat.toDigits 10 (n / 10)++Nat.toDigits 10 (n % 10)=Nat.toDigits 10 (10*(n / 10)+n % 10):=Nat.toDigits_append_toDigits (by decide) (by lia) hm
 rw [Nat.div_add_mod] at t
 rw [<-qi hm]
 unfold dg
 rw [<-t,GK]
theorem jG (n:Nat):∀ c∈dg n,48<=c/\c<=57:=by
 induction n using Nat.strongRecOn with
 | _ n ih=>
  by_cases h:n < 10
  ·rw [qi h]
   intro c hc
   rw [G8.mp hc]
   lia
  ·rw [wM (by lia)]
   intro c hc
   rcases GP.mp hc with hc|hc
   ·exact ih (n / 10) (by lia) c hc
   ·rw [G8.mp hc]
    lia
theorem gl (n:Nat):1<=(dg n).length/\∀ k,1<=k->n < 10 ^ k->(dg n).length<=k:=by
 induction n using Nat.strongRecOn with
 | _ n ih=>
  by_cases h:n < 10
  ·rw [qi h]
   exact ⟨by simp,fun k hk _=>by simpa using hk⟩
  ·rw [wM (by lia)]
   obtain ⟨a,b⟩:=ih (n / 10) (by lia)
   refine ⟨by rw [Gy];simp,fun k hk hn=>?_⟩
   rw [Gy]
   have hk2:2<=k:=by
    rcases (by lia:k=1\/2<=k) with rfl|z
    ·simp at hn
     lia
    ·exact z
   have:=b (k - 1) (by lia) (by
    have e:10 ^ k=10 ^ (k - 1)*10:=by rw [<-IM];congr 1;lia
    rw [e] at hn
    exact Nat.div_lt_of_lt_mul (by rw [Nat.mul_comm];exact hn))
   simp
   lia
theorem zj (n:Nat) (h1:1<=n):(dg n)[0]?≠some 48:=by
 induction n using Nat.strongRecOn with
 | _ n ih=>
  by_cases h:n < 10
  ·rw [qi h]
   simp
   lia
  ·rw [wM (by lia)]
   have hl:=(gl (n / 10)).1
   rw [Io (by lia)]
   exact ih (n / 10) (by lia) (by lia)
theorem gm (n:Nat):(toString (n:Int):Str)=S (dg n):=by
 have:=PySem.W.KIN.signs_num n
 have e:=wD (toString (n:Int):Str)
 rw [e]
 congr 1
def Ec:List Nat:=(List.range 10).map (48+·)
def B0:Str:="0123456789"
theorem Ef:B0=S Ec:=by decide +kernel
theorem zk (c:Nat) (h:48<=c/\c<=57):c∈Ec:=G0.mpr ⟨c - 48,HE.mpr (by lia),by lia⟩
section
variable {X:Cx}
theorem qj:dN X (.type "int") (fun xs H Q=>∃ n:Nat,xs=[.str (toString (n:Int):Str)]/\n < 1000000000/\Q (.int n) H):=by
 intro IP s σ H xs us Q I r h
 obtain ⟨n,rfl,hn,q⟩:=h
 obtain ⟨u,rfl,rx⟩:=gX r
 obtain ⟨t,rfl⟩:=rx
 exact PySem.W.KIN.call_num (by lia) (by lia) ⟨.int n,H,I.tok _,⟨_,rfl⟩,q⟩
end
theorem rN:ay ["token"] ["token"] (aj gG):=cH (by decide +kernel)
theorem qk {tF tM:Tok} (F:K7 K "number_of" "number_of" gG f fd) (T:Bl mg) (hF:mg "FIGURES"=some (.str B0 tF)) (hM:mg "MOST_FIGURES"=some (.int 9 tM)):KU P w K mg base bY 1 f fd ["token"] og:=by
 have ZZ:=rN
 walk_at "o"
 ·obtain ⟨n,rfl,hn,q⟩:=h
  refine ⟨_,ae (aM (PW.pt (fL (eP (pJ iK iK ag (aQ bN (by rfl) T.len Hf (aa (pv 0) ab)) (bx (v:=.int 9) rfl hM ⟨_,rfl⟩)))
    (dL (eP (dA (aQ (iQ rfl) (by rfl) T.all gJ (aa (fV (N':=["sign"]) (ix:=[none]) (sc0:=aj gG) (N:=["token"]) rfl (by decide +kernel) (rf (pv 0))
     (fun C' cl s H fp=>az (i:=0) BZ rfl (Or.inl rfl) (.inr rfl)) (fun _ _ _ _ _=>fU) (fun C' cl s H fp=>cn dW (pv 0) (bx (v:=.str B0) rfl hF ⟨_,rfl⟩) rfl)) ab))))))) (ah (ao kI)) aH)
   (ae (aM (PW.pt (bZ (ak be (aq ib (pv 0) ag (fun _ _=>rfl)) af (av _)) (bJ (ak kJ (aQ bN (by rfl) T.len Hf (aa (pv 0) ab)) ag (av _))))) (ah (ao kI)) aH)
   (ah (ao (aU qj (by rfl) T.int HB (aa (pv 0) ab))))),?_⟩
  have es:=gm n
  obtain ⟨l1,l9'⟩:=gl n
  have l9:=l9' 9 (by decide) (by lia)
  have sz:(100000:Nat)<=sizeLine:=by decide
  rw [es]
  refine ⟨_,rfl,S (dg n),rfl,(by rw [aG];lia),_,_,rfl,rfl,_,rfl,?_⟩
  rw [aG]
  refine br (decide_eq_true (by lia)) ⟨_,_,rfl,rfl,_,rfl,?_⟩
  rw [decide_eq_true (show ((dg n).length:Int)<=9 by lia)]
  refine ck ⟨_,rfl,dg n,rfl,?_⟩
  refine rh (fun i ys H'=>ys=(List.replicate i true).map V.bl/\KO H H') ⟨rfl,KO.refl _⟩ (fun i ys H' hi ⟨e,_⟩=>by rw [e,GC,Ii];lia) ?_ ?_
  ·rintro i ys H' hi ⟨rfl,s'⟩
   refine ⟨trivial,fW ?_⟩
   refine ⟨_,rfl,S [(dg n)[i]],_,rfl,rfl,?_⟩
   rw [Ef,fA,decide_eq_true (zk _ (jG n _ (Hv hi)))]
   refine Nx.mk hi ⟨?_,s'⟩
   rw [List.replicate_succ',GK]
   rfl
  ·rintro ys H' ⟨rfl,s'⟩ D hD
   have s2:=ad (o:=.lst ((List.replicate (dg n).length true).map V.bl)) hD
   refine ⟨D,List.replicate (dg n).length true,rfl,KW.of ac,?_⟩
   have ea:(List.replicate (dg n).length true).all id=true:=by simp
   rw [ea]
   refine ⟨_,rfl,ck ?_⟩
   refine ⟨_,rfl,S (dg n),0,(dg n)[0],rfl,rfl,(by rw [aG];lia),?_,rfl,_,rfl,?_⟩
   ·exact gI (i:=0) (by lia)
   ·by_cases hz:n=0
    ·subst hz
     have e00:(dg 0)[0]=48:=by simp [qi (n:=0) (by decide)]
     refine br (decide_eq_true (by rw [e00];decide +kernel)) ?_
     refine ⟨_,rfl,S (dg 0),rfl,(by rw [aG];lia),_,_,rfl,rfl,_,rfl,aZ (by decide +kernel) ?_⟩
     exact ⟨_,rfl,0,by rw [gm],hn,q _ (s'.trans s2)⟩
    ·have hd:=zj n (by lia)
     refine aZ ?_ (ck ?_)
     ·refine decide_eq_false fun e=>hd ?_
      have e2:=V.str.inj e
      have e3:S [(dg n)[0]]=S [48]:=e2.trans (by decide +kernel)
      have e4:[(dg n)[0]]=[48]:=by
       have:=congrArg (fun z:Str=>z.cps.toList) e3
       simpa [S] using this
      rw [GJ (by lia)]
      exact congrArg some (HI e4).1
     ·exact ⟨_,rfl,n,by rw [gm],hn,q _ (s'.trans s2)⟩
end L3
namespace L3
open PySem L2 TK
structure zm (K:ZF) (mg:Str->Option Value) (aD:Addr) (tG tS:Tok):Prop where
 gaps:mg "GAPS"=some (.str " \n" tG)
 sing:mg "SINGLE_SIGNS"=some (.str "(){}[],;+-&|^<=" tS)
 doub:mg "DOUBLE_SIGNS"=some (.ref aD)
 sq:∀ H,KP K H aD [.str "<<",.str ">>"]
 len:mg "len"=none
def vs (ts:List (List Nat)):List V:=ts.map fun t=>V.str (S t)
inductive om (xs:List V) (H:Hp) (Q:VK) (Z3:XK):Prop
 | mk (l:List Nat) (i:Nat):xs=[.str (S l),.int i]->i < l.length->l.length<=100000->Q (.str (S ((l.drop i).take (fM (l.drop i))))) H->om xs H Q Z3
inductive wN (xs:List V) (H:Hp) (Q:VK) (Z3:XK):Prop
 | mk (l:List Nat) (i:Nat):xs=[.str (S l),.int i]->i < l.length->l.length<=100000->Q (.str (S ((l.drop i).take (run (l.drop i))))) H->wN xs H Q Z3
inductive on (xs:List V) (H:Hp) (Q:VK) (Z3:XK):Prop
 | mk (l:List Nat):xs=[.str (S l)]->l.length<=100000->(∀ (p:Addr) (H':Hp),H p=none->H' p=some (.lst (vs (toks l)))->KO H H'->Q (.ref p) H')->on xs H Q Z3
variable {i:Nat}
theorem tu {l:List Nat} (h:i < l.length):fX l (some (i:Int)) (some ((i:Int)+2))=(l.drop i).take 2:=by
 unfold fX
 have e:((i:Int)+2)=((i+2:Nat):Int):=by lia
 rw [e,HT.sIx_nat,HT.sIx_nat,show min i l.length=i by lia]
 by_cases c:i+2<=l.length
 ·rw [show min (i+2) l.length - i=2 by lia]
 ·rw [HF (by rw [Hy];lia),HF (by rw [Hy];lia)]
theorem B5 {l:List Nat} {i j:Nat} (h:j<=l.length):fX l (some (i:Int)) (some (j:Int))=(l.drop i).take (j - i):=by
 unfold fX
 rw [HT.sIx_nat,HT.sIx_nat,show min j l.length=j by lia]
 by_cases c:i<=l.length
 ·rw [show min i l.length=i by lia]
 ·rw [show min i l.length=l.length by lia,List.drop_length,List.drop_eq_nil_of_le (by lia)]
  simp
theorem gK {l:List Nat} (h:i < l.length):l.drop i=l[i]::l.drop (i+1):=Hr h
theorem wO:(" \n":Str)=S [32,10]:=by decide +kernel
theorem B6:("(){}[],;+-&|^<=":Str)=S [40,41,123,125,91,93,44,59,43,45,38,124,94,60,61]:=by decide +kernel
theorem FJ:("<<":Str)=S [60,60]:=by decide +kernel
theorem FK:(">>":Str)=S [62,62]:=by decide +kernel
theorem tw (c:Nat):decide (c∈[32,10])=dI c:=by
 rw [HG,decide_eq_true_iff]
 unfold dI
 simp
theorem zn (c:Nat):decide (c∈[40,41,123,125,91,93,44,59,43,45,38,124,94,60,61])=cZ c:=by
 rw [HG,decide_eq_true_iff]
 unfold cZ
 rw [Hh]
theorem zo (t:List Nat):iH (.str (S t)) [.str "<<",.str ">>"]=(decide (t=[60,60]) || decide (t=[62,62])):=by
 unfold iH
 rw [FJ,FK]
 show ((S [60,60] == S t) || ((S [62,62] == S t) || false))=_
 have e:∀ u:List Nat,(S u == S t)=decide (t=u):=fun u=>by
  rw [HG,decide_eq_true_iff,beq_iff_eq,Mr]
  exact ⟨fun h=>h.symm,fun h=>h.symm⟩
 rw [e,e,Bool.or_false]
variable {P:Program} {w:World} {K:ZF} {mg:Str->Option Value} {base:Heap} {C fi aS aE aF aO:Addr} {t1 t2 t3 t4 t5 tM:Tok}
theorem B7:ay ["text","at"] ["text","at"] (aj wz):=cH (by decide +kernel)
variable {tG tS:Tok} {fd:FuncData} {f aD:Addr}
theorem zp (F:K7 K "sign_at" "sign_at" wz f fd) (T:zm K mg aD tG tS):KU P w K mg base bY 1 f fd ["text","at"] om:=by
 have ZZ:=B7
 walk_at "o"
 ·obtain ⟨l,i,rfl,hi,hz,q⟩:=h
  have sz:(100000:Nat)<=sizeLine:=by decide
  refine ⟨_,ae (aM (ak dh (dE nO (pv 0) (da (pv 1)) (da (ar bW (pv 1) ag))) (bx (v:=.ref aD) rfl T.doub rfl) rfl) (ah (ao (dE nO (pv 0) (da (pv 1)) (da (ar bW (pv 1) ag))))) aH)
   (ae (aM (ak dW (aq ib (pv 0) (pv 1) (fun _ _=>rfl)) (bx (v:=.str "(){}[],;+-&|^<=") rfl T.sing ⟨_,rfl⟩) rfl) (ah (ao (aq ib (pv 0) (pv 1) (fun _ _=>rfl)))) aH)
   (ah (ao af))),?_⟩
  refine ⟨_,rfl,_,rfl,_,rfl,_,rfl,_,_,rfl,rfl,_,rfl,l,rfl,hz,?_⟩
  rw [tu hi]
  refine ⟨aD,_,rfl,.inr (T.sq H),rfl,rfl,_,rfl,?_⟩
  show if iH (.str (S ((l.drop i).take 2))) [.str "<<",.str ">>"]=true then _ else _
  have two:fM (l.drop i)=if iH (.str (S ((l.drop i).take 2))) [.str "<<",.str ">>"]=true then 2 else if cZ l[i]=true then 1 else 0:=by
   rw [zo,gK hi]
   cases hd:l.drop (i+1) with
   | nil=>rw [dC];simp
   | cons d r=>
    rw [cq]
    simp
  by_cases c:iH (.str (S ((l.drop i).take 2))) [.str "<<",.str ">>"]=true
  ·rw [if_pos c] at two
   refine br c ?_
   refine ⟨_,rfl,_,rfl,_,rfl,_,rfl,_,_,rfl,rfl,_,rfl,l,rfl,hz,?_⟩
   rw [tu hi]
   rw [two] at q
   exact q
  ·rw [if_neg c] at two
   refine aZ (by simpa using c) ?_
   refine ⟨_,rfl,_,rfl,_,_,l[i],rfl,rfl,(by rw [aG];lia),gI hi,_,_,rfl,rfl,_,rfl,?_⟩
   rw [B6]
   have e:=fA l[i] [40,41,123,125,91,93,44,59,43,45,38,124,94,60,61]
   rw [zn] at e
   by_cases c2:cZ l[i]=true
   ·rw [if_pos c2] at two
    refine br (e.trans c2) ?_
    refine ⟨_,rfl,_,rfl,_,_,l[i],rfl,rfl,(by rw [aG];lia),gI hi,?_⟩
    rw [two,gK hi] at q
    exact q
   ·rw [if_neg c2] at two
    refine aZ (e.trans (by simpa using c2)) ?_
    rw [two] at q
    exact q
theorem Ni:ay ["text","at","behind"] ["text","at"] (aj BQ):=cH (by decide +kernel)
theorem take_nil {l:List Nat} {n:Nat} (h:n<=l.length):l.take n=[]↔n=0:=by
 constructor
 ·intro e
  have:=congrArg List.length e
  rw [GG,GL] at this
  lia
 ·intro e;rw [e,List.take_zero]
theorem B8 (F:K7 K "run_at" "run_at" BQ f fd) (T:zm K mg aD tG tS) (SG:Fn P w K mg base "sign_at" 1 ["text","at"] om):KU P w K mg base bY 2 f fd ["text","at"] wN:=by
 have ZZ:=Ni
 walk_at "o"
 ·obtain ⟨l,i,rfl,hi,hz,q⟩:=h
  have sz:(100000:Nat)<=sizeLine:=by decide
  have sl:(S l).length<=sizeLine:=by rw [aG];lia
  refine ⟨_,ae (ap (i:=2) Ni.nd rfl (Or.inl rfl) (pv 1))
   (ae (fb PassesOwn.never (PW.pt (bZ (ak dD (pv 2) (aQ bN (by rfl) T.len Hf (aa (pv 0) ab)) (av _))
     (bZ (ak nD (aq ib (pv 0) (pv 2) (fun _ _=>rfl)) (bx (v:=.str " \n") rfl T.gaps ⟨_,rfl⟩) rfl) (bJ (ak be (am SG hr rfl (aa (pv 0) (aa (pv 2) ab))) af (av _))))))
    (ah (jm (i:=2) Ni.nd rfl (Or.inl rfl) ag qQ)))
   (ah (ao (dE nO (pv 0) (da (pv 1)) (da (pv 2)))))),?_⟩
  refine ⟨_,rfl,?_⟩
  refine ⟨fun m σ H'=>∃ k:Nat,σ=[some (.str (S l)),some (.int i),some (.int (i+k:Nat))]/\m=l.length - (i+k)/\i+k<=l.length/\run (l.drop i)=k+run (l.drop (i+k))/\H'=H,
   ⟨_,0,rfl,rfl,by lia,by rw [Nat.add_zero,Nat.zero_add],rfl⟩,?_⟩
  rintro m σ H' ⟨k,rfl,rfl,hk,hrun,rfl⟩
  have out:run (l.drop (i+k))=0->DD (Gd (fun x lo hi H Q=>∃ l,x=.str (S l)/\l.length<=100000/\Q (.str (S (fX l lo hi))) H) (uB 0) (wa (uB 1)) (wa (uB 2))) { nx:=fun _ H'=>Q .non H',rt:=Q } [some (.str (S l)),some (.int i),some (.int (i+k:Nat))] H':=fun e=>by
   refine ⟨_,rfl,_,rfl,_,rfl,_,rfl,_,rfl,l,rfl,hz,?_⟩
   rw [B5 hk,show i+k - i=k by lia]
   rw [hrun,e,Nat.add_zero] at q
   exact q
  refine ⟨_,rfl,_,rfl,S l,rfl,sl,_,_,rfl,rfl,_,rfl,?_⟩
  by_cases c:i+k < l.length
  ·refine br (decide_eq_true (by rw [aG];lia)) ?_
   refine ⟨_,rfl,_,rfl,_,_,l[i+k],rfl,rfl,sl,gI c,_,_,rfl,rfl,_,rfl,?_⟩
   rw [wO]
   have e:=fA l[i+k] [32,10]
   rw [tw] at e
   have e':(!(!(Builtin.Str.occurrences (S [32,10]) (S [l[i+k]]) 0 (S [32,10]).length 1).isEmpty))=!dI l[i+k]:=by rw [e]
   have rc:run (l.drop (i+k))=if (dI l[i+k] || fM (l.drop (i+k)) != 0)=true then 0 else 1+run (l.drop (i+k+1)):=by
    rw [gK c,cg]
   cases g:dI l[i+k] with
   | true=>
    refine aZ (e'.trans (by rw [g];rfl)) (ck ?_)
    exact out (by rw [rc,g];rfl)
   | false=>
    refine br (e'.trans (by rw [g];rfl)) ?_
    refine ⟨_,rfl,_,rfl,l,i+k,rfl,c,hz,rfl,_,rfl,?_⟩
    rw [Ea]
    by_cases s0:fM (l.drop (i+k))=0
    ·refine br (decide_eq_true (by rw [s0];rfl)) ?_
     refine ⟨fun σ' H2=>σ'=[some (.str (S l)),some (.int i),some (.int (i+(k+1):Nat))]/\H2=H',fun σ' H2 ⟨e1,e2⟩=>⟨l.length - (i+(k+1)),by lia,k+1,e1,rfl,by lia,?_,e2⟩,?_⟩
     ·rw [hrun,rc,g,s0]
      show k+(1+run (l.drop (i+k+1)))=_
      rw [Nat.add_assoc i k 1]
      lia
     ·refine ⟨_,rfl,_,_,rfl,rfl,?_,rfl⟩
      show [some (V.str (S l)),some (V.int i),some (V.int (((i+k:Nat):Int)+1))]=_
      rw [show (((i+k:Nat):Int)+1)=((i+(k+1):Nat):Int) by lia]
    ·refine aZ (decide_eq_false ?_) ?_
     ·intro z
      injection z with z'
      have:=(take_nil (nL (l.drop (i+k)))).mp (Mr.mp z')
      exact s0 this
     ·exact out (by rw [rc,g];simp [s0])
  ·refine aZ (decide_eq_false (by rw [aG];lia)) (ck ?_)
   have:l.drop (i+k)=[]:=List.drop_eq_nil_of_le (by lia)
   exact out (by rw [this];rfl)
theorem LQ:ay ["text","tokens","at","token"] ["text"] (aj nV):=cH (by decide +kernel)
theorem wP (a b:List (List Nat)):vs (a++b)=vs a++vs b:=GK
theorem wQ (a:List (List Nat)):(vs a).length=a.length:=GC _
theorem zq (F:K7 K "tokens_of" "tokens_of" nV f fd) (T:zm K mg aD tG tS) (SG:Fn P w K mg base "sign_at" 1 ["text","at"] om) (RN:Fn P w K mg base "run_at" 2 ["text","at"] wN) :
  KU P w K mg base bY 3 f fd ["text"] on:=by
 have ZZ:=LQ
 walk_at "o"
 ·obtain ⟨l,rfl,hz,q⟩:=h
  have IS:KY 1 _:=hr.mono (by decide)
  have sz:(100000:Nat) < sizeLine:=by decide
  have sl:(S l).length<=sizeLine:=by rw [aG];lia
  refine ⟨_,ae (ap (i:=1) LQ.nd rfl (Or.inl rfl) (aB ab))
   (ae (ap (i:=2) LQ.nd rfl (Or.inl rfl) ag)
   (ae (fb PassesOwn.never (ak dD (pv 2) (aQ bN (by rfl) T.len Hf (aa (pv 0) ab)) (av _))
    (ah (aM (ak dW (aq ib (pv 0) (pv 2) (fun _ _=>rfl)) (bx (v:=.str " \n") rfl T.gaps ⟨_,rfl⟩) rfl) (ah (jm (i:=2) LQ.nd rfl (Or.inl rfl) ag qQ))
     (ae (ap (i:=3) LQ.nd rfl (Or.inl rfl) (BI (am SG IS rfl (aa (pv 0) (aa (pv 2) ab))) (gZ (am RN hr rfl (aa (pv 0) (aa (pv 2) ab))))))
     (ae (aN (b9 GS GR GQ bq (pv 1) (aa (pv 3) ab)))
     (ah (jm (i:=2) LQ.nd rfl (Or.inl rfl) (aQ bN (by rfl) T.len Hf (aa (pv 3) ab)) qQ)))))))
   (ah (ao (pv 1))))),?_⟩
  refine ⟨aW,fun p hp=>?_⟩
  refine ⟨fun m σ H'=>∃ (k:Nat) (ts:List (List Nat)) (v:Option V),σ=[some (.str (S l)),some (.ref p),some (.int k),v]/\m=l.length - k/\k<=l.length/\H' p=some (.lst (L3.vs ts))/\KO H H'/\ts++toks (l.drop k)=toks l/\ts.length<=k,
   ⟨_,0,[],none,rfl,rfl,by lia,ac,ad hp,rfl,GE _⟩,?_⟩
  rintro m σ H' ⟨k,ts,v,rfl,rfl,hk,g,s1,e,hl⟩
  refine ⟨_,rfl,_,rfl,S l,rfl,sl,_,_,rfl,rfl,_,rfl,?_⟩
  by_cases c:k < l.length
  ·refine br (decide_eq_true (by rw [aG];lia)) ?_
   refine ⟨fun σ' H2=>∃ (k':Nat) (ts':List (List Nat)) (v':Option V),σ'=[some (.str (S l)),some (.ref p),some (.int k'),v']/\k < k'/\k'<=l.length/\H2 p=some (.lst (L3.vs ts'))/\KO H H2/\ts'++toks (l.drop k')=toks l/\ts'.length<=k',
    fun σ' H2 ⟨k',ts',v',e1,e2,e3,e4,e5,e6,e7⟩=>⟨l.length - k',by lia,k',ts',v',e1,rfl,e3,e4,e5,e6,e7⟩,?_⟩
   refine ⟨_,rfl,_,rfl,_,_,l[k],rfl,rfl,sl,gI c,_,_,rfl,rfl,_,rfl,?_⟩
   rw [wO]
   have ec:=fA l[k] [32,10]
   rw [tw] at ec
   cases gg:dI l[k] with
   | true=>
    refine br (ec.trans gg) ?_
    refine ⟨_,rfl,_,_,rfl,rfl,?_⟩
    refine ⟨k+1,ts,v,?_,by lia,c,g,s1,?_,by lia⟩
    ·show [some (V.str (S l)),some (V.ref p),some (V.int ((k:Int)+1)),v]=_
     rw [show ((k:Int)+1)=((k+1:Nat):Int) by lia]
    ·rw [<-e,gK c,iO gg]
   | false=>
    refine aZ (ec.trans gg) ?_
    refine ⟨_,rfl,_,rfl,l,k,rfl,c,hz,?_⟩
    have dl:(l.drop k).length=l.length - k:=Hy
    have ol:=BH (l.drop k)
    have op:0 < one (l.drop k):=by rw [gK c];exact kc gg
    have tk:ts++[(l.drop k).take (one (l.drop k))]++toks (l.drop (k+one (l.drop k)))=toks l:=by
     rw [<-e,G1,show l.drop (k+one (l.drop k))=(l.drop k).drop (one (l.drop k)) by rw [List.drop_drop]]
     congr 1
     rw [gK c,kU gg]
     rfl
    have tl:((l.drop k).take (one (l.drop k))).length=one (l.drop k):=by rw [GG];lia
    have tz:((l.drop k).take (fM (l.drop k))).length<=100000:=by rw [GG];lia
    refine ⟨_,rfl,tz,?_⟩
    by_cases s0:fM (l.drop k)=0
    ·rw [if_pos ((take_nil (nL _)).mpr s0)]
     refine ⟨_,rfl,_,rfl,l,k,rfl,c,hz,?_⟩
     rw [show run (l.drop k)=one (l.drop k) from (if_pos s0).symm]
     refine ⟨_,rfl,.inl ⟨rfl,_,KW.of g⟩,_,rfl,p,_,_,rfl,rfl,g,(by rw [wQ];lia),?_⟩
     refine ⟨_,rfl,_,rfl,S ((l.drop k).take (one (l.drop k))),rfl,(by rw [aG];lia),_,_,rfl,rfl,?_⟩
     refine ⟨k+one (l.drop k),ts++[(l.drop k).take (one (l.drop k))],some (.str (S ((l.drop k).take (one (l.drop k))))),?_,by lia,by lia,?_,bK hp s1,tk,by rw [Gy];simp;lia⟩
     ·show [some (V.str (S l)),some (V.ref p),some (V.int ((k:Int)+((S ((l.drop k).take (one (l.drop k)))).length:Int))),some (V.str (S ((l.drop k).take (one (l.drop k)))))]=_
      rw [aG,tl,show ((k:Int)+(one (l.drop k):Int))=((k+one (l.drop k):Nat):Int) by lia]
     ·rw [ac,wP];rfl
    ·rw [if_neg (fun z=>s0 ((take_nil (nL _)).mp z))]
     rw [show fM (l.drop k)=one (l.drop k) from (if_neg s0).symm]
     refine ⟨_,rfl,.inl ⟨rfl,_,KW.of g⟩,_,rfl,p,_,_,rfl,rfl,g,(by rw [wQ];lia),?_⟩
     refine ⟨_,rfl,_,rfl,S ((l.drop k).take (one (l.drop k))),rfl,(by rw [aG];lia),_,_,rfl,rfl,?_⟩
     refine ⟨k+one (l.drop k),ts++[(l.drop k).take (one (l.drop k))],some (.str (S ((l.drop k).take (one (l.drop k))))),?_,by lia,by lia,?_,bK hp s1,tk,by rw [Gy];simp;lia⟩
     ·show [some (V.str (S l)),some (V.ref p),some (V.int ((k:Int)+((S ((l.drop k).take (one (l.drop k)))).length:Int))),some (V.str (S ((l.drop k).take (one (l.drop k)))))]=_
      rw [aG,tl,show ((k:Int)+(one (l.drop k):Int))=((k+one (l.drop k):Nat):Int) by lia]
     ·rw [ac,wP];rfl
  ·refine aZ (decide_eq_false (by rw [aG];lia)) ?_
   have:k=l.length:=by lia
   subst this
   rw [List.drop_length,kT,Hw] at e
   subst e
   exact ⟨_,rfl,q p H' hp g s1⟩
end L3
namespace L3
open PySem L2
def zr (l:List Nat):Bool:=!LH.contains (S l) && (decide (1<=l.length) && (decide (l.length<=8) && l.all fun c=>decide (c∈iU)))
inductive wR (vs:List V) (H:Hp) (Q:VK) (Z3:XK):Prop
 | mk (l:List Nat):vs=[.str (S l)]->l.length<=1000->(∀ H',KO H H'->Q (.bl (zr l)) H')->wR vs H Q Z3
variable {P:Program} {w:World} {K:ZF} {mg:Str->Option Value} {base:Heap} {C fi aS aE aF aO:Addr} {t1 t2 t3 t4 t5 tM:Tok}
variable {fd:FuncData} {f:Addr}
theorem wS {tL tN:Tok} (F:K7 K "is_name" "is_name" mV f fd) (T:Bl mg) (C:BY K mg aO tL tN):KU P w K mg base bY 1 f fd ["thing"] wR:=by
 have ZZ:=wL
 walk_at "o"
 ·obtain ⟨l,rfl,hl,q⟩:=h
  refine ⟨_,ae (aM (PW.pt (fL (eP (dA (aQ (kX (T:="str")) (by rfl) T.isinstance ff (aa (pv 0) (aa (Mi (by rfl) T.str cb) ab)))))
    (dL (ak dh (pv 0) (bx (v:=.ref aO) rfl C.own rfl) rfl)))) (ah (ao jR)) aH)
   (ah (ao (hI (kK iK iK ag (aQ bN (by rfl) T.len Hf (aa (pv 0) ab)) (bx (v:=.int 8) rfl C.lng ⟨_,rfl⟩))
    (gZ (aQ (iQ rfl) (by rfl) T.all gJ (aa (fV (N':=["sign"]) (ix:=[none]) (sc0:=aj mV) (N:=["thing"]) rfl (by decide +kernel) (rf (pv 0))
     (fun C' cl s H fp=>az (i:=0) BZ rfl (Or.inl rfl) (.inr rfl)) (fun _ _ _ _ _=>fU) (fun C' cl s H fp=>cn dW (pv 0) (bx (v:=.str zh) rfl C.lets ⟨_,rfl⟩) rfl)) ab)))))),?_⟩
  have sz:(100000:Nat)<=sizeLine:=by decide
  refine ⟨_,rfl,_,_,_,rfl,.str _,rfl,_,rfl,ck ?_⟩
  have ein:iH (.str (S l)) (ai LH)=LH.contains (S l):=c7 _ _
  refine ⟨_,rfl,aO,ai LH,rfl,.inr (C.sq H),rfl,dZ _,_,rfl,bU (fun h=>?_) (fun h=>?_)⟩
  ·have h':LH.contains (S l)=true:=by rw [<-ein];exact h
   have e:zr l=false:=by unfold zr;rw [h'];rfl
   have:=q H (KO.refl _)
   rw [e] at this
   exact this
  ·have h':LH.contains (S l)=false:=by rw [<-ein];exact HV.mpr h
   have e:zr l=(decide (1<=l.length) && (decide (l.length<=8) && l.all fun c=>decide (c∈iU))):=by unfold zr;rw [h'];rfl
   rw [e] at q
   refine ⟨_,rfl,S l,rfl,(by rw [aG];lia),_,_,rfl,rfl,_,rfl,?_⟩
   rw [aG]
   refine bU (fun h1=>?_) (fun h1=>?_)
   ·have h1':1<=l.length:=by have:=of_decide_eq_true h1;lia
    refine ⟨_,_,rfl,rfl,_,rfl,bU (fun h2=>?_) (fun h2=>?_)⟩
    ·have h2':l.length<=8:=by have:=of_decide_eq_true h2;lia
     refine ⟨_,rfl,l,rfl,?_⟩
     refine rh (fun i ys H'=>ys=((l.take i).map fun c=>decide (c∈iU)).map V.bl/\KO H H') ⟨rfl,KO.refl _⟩ (fun i ys H' hi ⟨e,_⟩=>by rw [e,GC,GC,GG];lia) ?_ ?_
     ·rintro i ys H' hi ⟨rfl,s'⟩
      refine ⟨trivial,fW ?_⟩
      refine ⟨_,rfl,S [l[i]],_,rfl,rfl,?_⟩
      rw [AQ,fA]
      refine Nx.mk hi ⟨?_,s'⟩
      rw [GX,GJ hi,GK,GK]
      rfl
     ·rintro ys H' ⟨rfl,s'⟩ D hD
      rw [GV]
      refine ⟨D,l.map fun c=>decide (c∈iU),rfl,KW.of ac,?_⟩
      have:=q _ (s'.trans (ad (o:=.lst ((l.map fun c=>decide (c∈iU)).map V.bl)) hD))
      rw [decide_eq_true h1',decide_eq_true h2'] at this
      have ea:(l.map fun c=>decide (c∈iU)).all id=l.all fun c=>decide (c∈iU):=by rw [List.all_map];rfl
      rw [ea]
      exact this
    ·have h2':¬ l.length<=8:=fun z=>h2 (decide_eq_true (by lia))
     have:=q H (KO.refl _)
     rw [decide_eq_true h1',decide_eq_false h2'] at this
     exact this
   ·have h1':¬ 1<=l.length:=fun z=>h1 (decide_eq_true (by lia))
    have:=q H (KO.refl _)
    rw [decide_eq_false h1'] at this
    exact ⟨_,rfl,ck this⟩
variable {z:Str}
theorem B9 (h:K4 z):zr z.cps.toList=true:=by
 obtain ⟨h0,h1,h2,h3⟩:=h
 have ez:=wD z
 have zl:z.length=z.cps.toList.length:=by show z.cps.size=_;simp
 unfold zr
 rw [<-ez,HV.mpr fun e=>h0 (Hh.mp e),decide_eq_true (by lia),decide_eq_true (by lia)]
 have:(z.cps.toList.all fun c=>decide (c∈iU))=true:=Ht.mpr fun c hc=>decide_eq_true (tq _ (h3 c hc))
 rw [this]
 rfl
theorem Eg (n:Nat):zr (dg n)=false:=by
 unfold zr
 have hl:=(gl n).1
 have:(dg n).all (fun c=>decide (c∈iU))=false:=by
  rw [List.all_eq_false]
  cases e:dg n with
  | nil=>rw [e] at hl;simp at hl
  | cons c r=>
   refine ⟨c,Gz,?_⟩
   have hc:=jG n c (by rw [e];exact Gz)
   have hno:∀ c,48<=c->c<=57->¬ c∈iU:=by
    intro c h1 h2 hm
    have:∀ x∈iU,97<=x:=by decide
    have:=this c hm
    lia
   simp [hno c hc.1 hc.2]
 rw [this]
 simp
def At (ts:List Str) (k:Nat) (l:List Str):Prop:=∀ (i:Nat) (z:Str),l[i]?=some z->(tz ts)[k+i]?=some z
variable {x:Str} {ts:List Str}
theorem At.hd {k:Nat} {l:List Str} (h:At ts k (x::l)):(tz ts)[k]?=some x:=h 0 x rfl
theorem At.tl {k:Nat} {l:List Str} (h:At ts k (x::l)):At ts (k+1) l:=fun i z e=>by
 have:=h (i+1) z (by simpa using e)
 rw [show k+(i+1)=k+1+i by lia] at this
 exact this
variable {a b:List Str}
theorem At.l {k:Nat} (h:At ts k (a++b)):At ts k a:=fun i z e=>h i z (by rw [Io (GA.mp e).1];exact e)
theorem At.r {k:Nat} (h:At ts k (a++b)):At ts (k+a.length) b:=fun i z e=>by
 have:=h (a.length+i) z (by rw [Ik (by lia),show a.length+i - a.length=i by lia];exact e)
 rw [show k+(a.length+i)=k+a.length+i by lia] at this
 exact this
inductive Ex where
 | num (n:Nat)
 | nm (z:Str)
 | cell (e:Ex)
 | two (o:Str) (x y:Ex)
def La:List Str:=[("+":Str),("-":Str),("&":Str),("|":Str),("^":Str),("<<":Str),(">>":Str),("<":Str),("=":Str)]
def bP:Ex->List Str
 | .num n=>[(toString (n:Int):Str)]
 | .nm z=>[z]
 | .cell e=>("[":Str)::(bP e++[("]":Str)])
 | .two o x y=>("(":Str)::(bP x++o::(bP y++[(")":Str)]))
def Mh (H:Hp):Ex->V->Prop
 | .num n,v=>∃ p,v=.ref p/\H p=some (.tup [.str ("number":Str),.int (n:Nat)])
 | .nm z,v=>∃ p,v=.ref p/\H p=some (.tup [.str ("name":Str),.str z])
 | .cell e,v=>∃ p u,v=.ref p/\H p=some (.tup [.str ("cell":Str),u])/\Mh H e u
 | .two o x y,v=>∃ p u t,v=.ref p/\H p=some (.tup [.str o,u,t])/\Mh H x u/\Mh H y t
variable {H H':Hp}
theorem Mh.kt (k:K5 H H'):∀ {e:Ex} {v:V},Mh H e v->Mh H' e v
 | .num _,_,⟨p,a,b⟩=>⟨p,a,k _ _ b⟩
 | .nm _,_,⟨p,a,b⟩=>⟨p,a,k _ _ b⟩
 | .cell _,_,⟨p,u,a,b,c⟩=>⟨p,u,a,k _ _ b,Mh.kt k c⟩
 | .two _ _ _,_,⟨p,u,t,a,b,c,d⟩=>⟨p,u,t,a,k _ _ b,Mh.kt k c,Mh.kt k d⟩
def ca (w:Nat):Nat->Ex->Prop
 | _,.num n=>n < 2 ^ w
 | _,.nm z=>K4 z
 | 0,.cell _=>False
 | m+1,.cell e=>ca w m e
 | 0,.two _ _ _=>False
 | m+1,.two o x y=>o∈La/\ca w m x/\ca w m y
inductive Gs where
 | cell (a e:Ex)
 | nm (z:Str) (e:Ex)
def gW:Gs->List Str
 | .cell a e=>("[":Str)::(bP a++("]":Str)::("=":Str)::(bP e++[(";":Str)]))
 | .nm z e=>z::("=":Str)::(bP e++[(";":Str)])
def Mf (H:Hp) (g:Gs) (v:V):Prop:=match g with
 | .cell a e=>∃ p u t,v=.ref p/\H p=some (.tup [.str ("cell":Str),u,t])/\Mh H a u/\Mh H e t
 | .nm z e=>∃ p t,v=.ref p/\H p=some (.tup [.str ("name":Str),.str z,t])/\Mh H e t
theorem Mf.kt (k:K5 H H'):∀ {g:Gs} {v:V},Mf H g v->Mf H' g v
 | .cell _ _,_,⟨p,u,t,a,b,c,d⟩=>⟨p,u,t,a,k _ _ b,c.kt k,d.kt k⟩
 | .nm _ _,_,⟨p,t,a,b,c⟩=>⟨p,t,a,k _ _ b,c.kt k⟩
def Gs.isCell:Gs->Bool
 | .cell _ _=>true
 | .nm _ _=>false
def fG (w:Nat):Gs->Prop
 | .cell a e=>ca w 3 a/\ca w 3 e
 | .nm z e=>K4 z/\ca w 3 e
inductive En where
 | w0 (s:Str)
 | w1 (s z:Str)
def fH:En->List Str
 | .w0 s=>[s]
 | .w1 s z=>[s,z]
inductive NG (H:Hp) (e:En) (v:V):Prop
 | mk (p:_):v=.ref p->H p=some (.tup ((fH e).map V.str))->NG H e v
def lJ:En->Prop
 | .w0 s=>s∈([("next":Str),("back":Str),("stop":Str)]:List Str)
 | .w1 s z=>s∈([("go":Str),("call":Str),("fault":Str)]:List Str)/\K4 z/\(s=("fault":Str)->z∉([("deep":Str),("bare":Str)]:List Str))
inductive Bd where
 | leaf (sets:List Gs) (en:En)
 | ite (top:Bool) (z:Str) (y n:Bd)
def bE:List Gs->List Str
 | []=>[]
 | g::r=>("set":Str)::(gW g++bE r)
def cV:Bd->List Str
 | .leaf s e=>("{":Str)::(bE s++(fH e++[("}":Str)]))
 | .ite t z y n=>("{":Str)::("if":Str)::((if t then [("top":Str),z] else [z])++(cV y++("else":Str)::(cV n++[("}":Str)])))
inductive Md (H:Hp) (t:Bool) (z:Str) (v:V):Prop
 | mk (p:_):v=.ref p->H p=some (.tup [.str (if t then ("top":Str) else ("if":Str)),.str z])->Md H t z v
def M6 (H:Hp):Bd->V->Prop
 | .leaf s e,v=>∃ p q us u,v=.ref p/\H p=some (.tup [.str ("leaf":Str),.ref q,u])/\H q=some (.tup us)/\Paired (fun v g=>Mf H g v) us s/\NG H e u
 | .ite t z y n,v=>∃ p u a b,v=.ref p/\H p=some (.tup [.str ("if":Str),u,a,b])/\Md H t z u/\M6 H y a/\M6 H n b
def dq (w:Nat):Nat->Bd->Prop
 | _,.leaf s e=>s.length<=4/\(∀ g∈s,fG w g)/\(∀ i j:Nat,∀ g h,s[i]?=some g->s[j]?=some h->g.isCell=true->h.isCell=true->i=j)/\lJ e
 | 0,.ite _ _ _ _=>False
 | m+1,.ite _ z y n=>K4 z/\dq w m y/\dq w m n
inductive Ed where
 | num (n:Nat)
 | fld (j:Nat)
 | pl (b:Bool) (n:Nat)
 | mk (b:Bool) (n:Nat)
 | cell (e:Ed)
 | two (o:Str) (x y:Ed)
inductive Sd where
 | cell (a e:Ed)
 | pl (b:Bool) (n:Nat) (e:Ed)
 | mk (b:Bool) (n:Nat) (e:Ed)
inductive Ee where
 | w0 (s:Str)
 | fault (z:Str)
 | go (s:Str) (j:Nat)
inductive Tt where
 | top (b:Bool) (n:Nat)
 | pl (b:Bool) (n:Nat)
 | mk (b:Bool) (n:Nat)
inductive Dd where
 | leaf (s:List Sd) (e:Ee)
 | ite (t:Tt) (y n:Dd)
def jX:Sp:=fun _ _ _ _=>False
theorem du {k:Nat} {ps:List Str}:KU P w K mg base bY k f fd ps jX:=⟨fun _ _ _ _ h=>h.elim,fun _ _ _ _ _ _ _ _ _ _ _ _ _ h=>h.elim⟩
inductive lK (C:Addr) (m:Nat) (vs:List V) (H:Hp) (Q:VK) (Z3:XK):Prop
 | mk (a l ts k me e:_) (w b:Nat):vs=[.ref a,.int w,.int b]->b+m=3->w<=24->Lb C H a l ts k me->At ts k (bP e)->ca w m e->(∀ v H',Lb C H' a l ts (k+(bP e).length) me->K0 a H H'->Mh H' e v->Q v H')->lK C m vs H Q Z3
inductive ql (C:Addr) (m:Nat) (vs:List V) (H:Hp) (Q:VK):Prop
 | mk (a l ts k me e:_) (w b:Nat):vs=[.ref a,.int w,.int b]->b+m=3->w<=24->Lb C H a l ts k me->At ts k (bP (.cell e))->ca w m e->(∀ v H',Lb C H' a l ts (k+(bP (.cell e)).length) me->K0 a H H'->Mh H' (.cell e) v->Q v H')->ql C m vs H Q
def oo (C:Addr):Nat->Sp
 | 0=>jX
 | m+1=>fun vs H Q _=>ql C m vs H Q
inductive tx (C:Addr) (m:Nat) (vs:List V) (H:Hp) (Q:VK):Prop
 | mk (a l ts k me o x y:_) (w b:Nat):vs=[.ref a,.int w,.int b]->b+m=3->w<=24->Lb C H a l ts k me->At ts k (bP (.two o x y))->o∈La->ca w m x->ca w m y->(∀ v H',Lb C H' a l ts (k+(bP (.two o x y)).length) me->K0 a H H'->Mh H' (.two o x y) v->Q v H')->tx C m vs H Q
def rO (C:Addr):Nat->Sp
 | 0=>jX
 | m+1=>fun vs H Q _=>tx C m vs H Q
structure ZE (mg:Str->Option Value) (t5:Tok):Prop where
 mb:mg "MOST_BRACKETS"=some (.int 3 t5)
def AR:Sp:=fun vs H Q _=>vs=[]/\∀ p,H p=none->Q (.ref p) (aI H p (.lst (ai La)))
theorem K0.kt {a dx C:Addr} {fs:List (Str×V)} (b:K0 a H H') (h:H a=some (.ins C dx fs)):K5 H H':=fun c xs e=>b _ _ e (by
 rintro rfl
 rw [h] at e
 cases e)
def zt:Ex->Str
 | .num n=>(toString (n:Int):Str)
 | .nm z=>z
 | .cell _=>"["
 | .two _ _ _=>"("
theorem Ca {k:Nat}:∀ {e:Ex},At ts k (bP e)->(tz ts)[k]?=some (zt e)
 | .num _,h=>h.hd
 | .nm _,h=>h.hd
 | .cell _,h=>h.hd
 | .two _ _ _,h=>h.hd
variable {n:Nat}
theorem AS {t:List Nat} (h:∀ c∈t,c < 48\/57 < c):(toString (n:Int):Str)≠S t:=by
 rw [gm]
 intro e
 have e':dg n=t:=congrArg (fun z:Str=>z.cps.toList) e
 have hl:=(gl n).1
 cases ed:dg n with
 | nil=>rw [ed] at hl;simp at hl
 | cons c r=>
  have h1:=jG n c (by rw [ed];exact Gz)
  have h2:=h c (by rw [<-e',ed];exact Gz)
  lia
theorem oq (hn:K4 z) {t:List Nat} (h:∀ c∈t,c < 97\/122 < c):z≠S t:=by
 intro e
 have h1:=hn.2.1
 have e':z.cps.toList=t:=congrArg (fun z:Str=>z.cps.toList) e
 have zl:z.length=z.cps.toList.length:=by show z.cps.size=_;simp
 cases et:t with
 | nil=>rw [e',et] at zl;simp at zl;lia
 | cons c r=>
  have hc:c∈z.cps.toList:=by rw [e',et];exact Gz
  have h3:=hn.2.2.2 c hc
  have h4:=h c (by rw [et];exact Gz)
  lia
theorem Cb:("[":Str)=S [91]:=by decide +kernel
theorem Eh:("(":Str)=S [40]:=by decide +kernel
theorem wT {w m:Nat}:∀ {e:Ex},ca w m e->(∀ x,e≠.cell x)->zt e≠"["
 | .num n,_,_=>by rw [Cb];exact AS (by simp)
 | .nm z,h,_=>by
  have hn:K4 z:=by cases m<;>exact h
  rw [Cb];exact oq hn (by simp)
 | .cell x,_,h=>absurd rfl (h x)
 | .two _ _ _,_,_=>by show ("(":Str)≠"[";decide +kernel
theorem wU {w m:Nat}:∀ {e:Ex},ca w m e->(∀ o x y,e≠.two o x y)->zt e≠"("
 | .num n,_,_=>by rw [Eh];exact AS (by simp)
 | .nm z,h,_=>by
  have hn:K4 z:=by cases m<;>exact h
  rw [Eh];exact oq hn (by simp)
 | .two o x y,_,h=>absurd rfl (h o x y)
 | .cell _,_,_=>by show ("[":Str)≠"(";decide +kernel
theorem Ei:ay [] [] (aj BP):=cH (by decide +kernel)
theorem Cd {kvs:List (Str×V)} (F:K7 K "ops_told" "ops_told" BP f fd) (T:Bl mg) (ho:mg "OPS"=some (.ref aO)) (hd:ka w K aO kvs) (hk:kvs.map (·.1)=La) (lo:(aO == sysModules)=false):KU P w K mg base bY 1 f fd [] AR:=by
 have ZZ:=Ei
 walk_at "o"
 ·obtain ⟨rfl,q⟩:=h
  refine ⟨_,ah (ao (aU (Me rfl) (by rfl) T.list fE (aa (bx (v:=.ref aO) rfl ho rfl) ab))),?_⟩
  have hl:kvs.length=9:=by
   have:=congrArg List.length hk
   rw [GC] at this
   exact this
  refine ⟨aO,kvs,rfl,hd,by rw [hk];decide +kernel,lo,by lia,fun p hp=>?_⟩
  have e:(kvs.map fun kv=>V.str kv.1)=ai La:=by
   unfold ai
   rw [<-hk,Hz]
   rfl
  rw [e]
  exact q p hp
theorem MX:ay ["reader","width","brackets","address"] ["reader","width","brackets"] (aj jx):=cH (by decide +kernel)
variable {m:Nat}
theorem lL (F:K7 K "read_cell" "read_cell" jx f fd) (T:qO P w K mg base C) (EX:Fn P w K mg base "read_expression" n ["reader","width","brackets"] (lK C m)) (hn:3<=n):KU P w K mg base bY (n+1) f fd ["reader","width","brackets"] (oo C (m+1)):=by
 have ZZ:=MX
 walk_at "o"
 ·obtain ⟨a,l,ts,k,me,e,w,b,rfl,hb,hw,hR,hA,hE,q⟩:=h
  have IU:KY 2 _:=hr.mono (by lia)
  refine ⟨_,ae (aN (KZ (pv 0) (aa (aC (aa af ab)) ab)))
   (ae (ap (i:=3) MX.nd rfl (Or.inl rfl) (am EX hr rfl (aa (pv 0) (aa (pv 1) (aa (pv 2) ab)))))
   (ae (aN (KZ (pv 0) (aa (aC (aa af ab)) ab)))
   (ah (ao (aC (aa af (aa (pv 3) ab))))))),?_⟩
  obtain ⟨f1,IV,M1,F1,B1⟩:=T.need
  obtain ⟨dx,ho⟩:=hR.ob
  have hA':At ts k (("[":Str)::(bP e++[("]":Str)])):=hA
  refine ⟨_,rfl,a,dx,C,f1,_,IV,2,["self","words"],_,rfl,ho,rfl,T.cl,M1,F1,IU,B1,aW,fun p1 n1=>?_⟩
  have s1:=ad (o:=.tup [.str "["]) n1
  refine ⟨a,l,ts,k,me,"[",p1,["["],rfl,hR.same s1,hA'.hd,.inr (KP.of ac),Gz,fun H1 r1 b1=>?_⟩
  have b01:K0 a H H1:=(bO s1).trans b1
  refine ⟨_,rfl,_,rfl,_,rfl,a,l,ts,k+1,me,e,w,b,rfl,hb,hw,r1,hA'.tl.l,hE,fun u H2 r2 b2 v2=>?_⟩
  obtain ⟨dx2,ho2⟩:=r2.ob
  refine ⟨_,rfl,a,dx2,C,f1,_,IV,2,["self","words"],_,rfl,ho2,rfl,T.cl,M1,F1,IU,B1,aW,fun p3 n3=>?_⟩
  have s3:=ad (o:=.tup [.str "]"]) n3
  refine ⟨a,l,ts,k+1+(bP e).length,me,"]",p3,["]"],rfl,r2.same s3,hA'.tl.r.hd,.inr (KP.of ac),Gz,fun H4 r4 b4=>?_⟩
  have b24:K0 a H2 H4:=(bO s3).trans b4
  refine ⟨_,rfl,aW,fun p np=>?_⟩
  have s5:=ad (o:=.tup [.str "cell",u]) np
  have IQ:k+(bP (.cell e)).length=k+1+(bP e).length+1:=by
   show k+(("[":Str)::(bP e++[("]":Str)])).length=_
   simp
   lia
  refine q _ _ (by rw [IQ];exact r4.same s5) (((b01.trans b2).trans b24).same s5) ⟨p,u,rfl,ac,?_⟩
  exact (v2.kt (b24.kt ho2)).kt (al s5)
theorem My:ay ["reader","width","brackets","one","op","other"] ["reader","width","brackets"] (aj lB):=cH (by decide +kernel)
theorem ot (F:K7 K "read_two" "read_two" lB f fd) (T:qO P w K mg base C) (EX:Fn P w K mg base "read_expression" n ["reader","width","brackets"] (lK C m)) (OP:Fn P w K mg base "ops_told" 1 [] AR) (hn:3<=n):KU P w K mg base bY (n+1) f fd ["reader","width","brackets"] (rO C (m+1)):=by
 have ZZ:=My
 walk_at "o"
 ·obtain ⟨a,l,ts,k,me,o,x,y,w,b,rfl,hb,hw,hR,hA,hop,hX,hY,q⟩:=h
  have IU:KY 2 _:=hr.mono (by lia)
  have IS:KY 1 _:=hr.mono (by lia)
  refine ⟨_,ae (aN (KZ (pv 0) (aa (aC (aa af ab)) ab)))
   (ae (ap (i:=3) My.nd rfl (Or.inl rfl) (am EX hr rfl (aa (pv 0) (aa (pv 1) (aa (pv 2) ab)))))
   (ae (ap (i:=4) My.nd rfl (Or.inl rfl) (KZ (pv 0) (aa (BR OP IS rfl) ab)))
   (ae (ap (i:=5) My.nd rfl (Or.inl rfl) (am EX hr rfl (aa (pv 0) (aa (pv 1) (aa (pv 2) ab)))))
   (ae (aN (KZ (pv 0) (aa (aC (aa af ab)) ab)))
   (ah (ao (aC (aa (pv 4) (aa (pv 3) (aa (pv 5) ab)))))))))),?_⟩
  obtain ⟨f1,IV,M1,F1,B1⟩:=T.need
  obtain ⟨dx,ho⟩:=hR.ob
  have hA':At ts k (("(":Str)::(bP x++o::(bP y++[(")":Str)]))):=hA
  have hA2:=hA'.tl.r
  refine ⟨_,rfl,a,dx,C,f1,_,IV,2,["self","words"],_,rfl,ho,rfl,T.cl,M1,F1,IU,B1,aW,fun p1 n1=>?_⟩
  have s1:=ad (o:=.tup [.str "("]) n1
  refine ⟨a,l,ts,k,me,"(",p1,["("],rfl,hR.same s1,hA'.hd,.inr (KP.of ac),Gz,fun H1 r1 b1=>?_⟩
  have b01:K0 a H H1:=(bO s1).trans b1
  refine ⟨_,rfl,_,rfl,_,rfl,a,l,ts,k+1,me,x,w,b,rfl,hb,hw,r1,hA'.tl.l,hX,fun u H2 r2 b2 v2=>?_⟩
  obtain ⟨dx2,ho2⟩:=r2.ob
  refine ⟨_,rfl,a,dx2,C,f1,_,IV,2,["self","words"],_,rfl,ho2,rfl,T.cl,M1,F1,IU,B1,rfl,fun p3 n3=>?_⟩
  have s3:=ad (o:=.lst (ai La)) n3
  refine ⟨a,l,ts,k+1+(bP x).length,me,o,p3,La,rfl,r2.same s3,hA2.hd,.inl (KW.of ac),hop,fun H4 r4 b4=>?_⟩
  have b24:K0 a H2 H4:=(bO s3).trans b4
  have v4:=v2.kt (b24.kt ho2)
  obtain ⟨dx4,ho4⟩:=r4.ob
  refine ⟨_,rfl,_,rfl,_,rfl,a,l,ts,k+1+(bP x).length+1,me,y,w,b,rfl,hb,hw,r4,hA2.tl.l,hY,fun t H5 r5 b5 v5=>?_⟩
  obtain ⟨dx5,ho5⟩:=r5.ob
  refine ⟨_,rfl,a,dx5,C,f1,_,IV,2,["self","words"],_,rfl,ho5,rfl,T.cl,M1,F1,IU,B1,aW,fun p6 n6=>?_⟩
  have s6:=ad (o:=.tup [.str ")"]) n6
  refine ⟨a,l,ts,k+1+(bP x).length+1+(bP y).length,me,")",p6,[")"],rfl,r5.same s6,hA2.tl.r.hd,.inr (KP.of ac),Gz,fun H7 r7 b7=>?_⟩
  have b57:K0 a H5 H7:=(bO s6).trans b7
  refine ⟨_,rfl,_,rfl,_,rfl,aW,fun p np=>?_⟩
  have s8:=ad (o:=.tup [.str o,u,t]) np
  have IQ:k+(bP (.two o x y)).length=k+1+(bP x).length+1+(bP y).length+1:=by
   show k+(("(":Str)::(bP x++o::(bP y++[(")":Str)]))).length=_
   simp
   lia
  refine q _ _ (by rw [IQ];exact r7.same s8) (((((b01.trans b2).trans b24).trans b5).trans b57).same s8) ⟨p,u,t,rfl,ac,?_,?_⟩
  ·exact ((v4.kt (b5.kt ho4)).kt (b57.kt ho5)).kt (al s8)
  ·exact (v5.kt (b57.kt ho5)).kt (al s8)
theorem Nd:ay ["reader","width","brackets","token"] ["reader","width","brackets"] (aj jw):=cH (by decide +kernel)
theorem kg (F:K7 K "read_expression" "read_expression" jw f fd) (T:qO P w K mg base C) (Z:ZE mg t5) (NM:Fn P w K mg base "is_name" 1 ["thing"] wR) (CE:Fn P w K mg base "read_cell" n ["reader","width","brackets"] (oo C m)) (TW:Fn P w K mg base "read_two" n ["reader","width","brackets"] (rO C m)) (hn:3<=n):KU P w K mg base bY (n+1) f fd ["reader","width","brackets"] (lK C m):=by
 have ZZ:=Nd
 walk_at "o"
 ·obtain ⟨a,l,ts,k,me,e,w,b,rfl,hb,hw,hR,hA,hE,q⟩:=h
  have IS:KY 1 _:=hr.mono (by lia)
  have hr3:KY 3 _:=hr.mono (by lia)
  refine ⟨_,ae (ap (i:=3) Nd.nd rfl (Or.inl rfl) (KR (pv 0)))
   (ae (aM (c6 (fun _ H'=>H'=H/\∃ x,e=.cell x) (fun _ H'=>H'=H/\∀ x,e≠.cell x) (PW.pt (bZ (ak dD (pv 2) (bx (v:=.int 3) rfl Z.mb ⟨_,rfl⟩) (av _)) (bJ (ak be (pv 3) af (av _)))))) (ah (ao (am CE hr rfl (aa (pv 0) (aa (pv 1) (aa (ar bW (pv 2) ag) ab)))))) aH)
   (ae (aM (c6 (fun _ H'=>H'=H/\∃ o x y,e=.two o x y) (fun _ H'=>H'=H/\∀ o x y,e≠.two o x y) (PW.pt (bZ (ak dD (pv 2) (bx (v:=.int 3) rfl Z.mb ⟨_,rfl⟩) (av _)) (bJ (ak be (pv 3) af (av _)))))) (ah (ao (am TW hr rfl (aa (pv 0) (aa (pv 1) (aa (ar bW (pv 2) ag) ab)))))) aH)
   (ae (aM (dA (am NM IS rfl (aa (pv 3) ab))) (ah (ao (aC (aa af (aa (KR (pv 0)) ab))))) aH)
   (ah (ao (aC (aa af (aa (KZ (pv 0) (aa ag (aa (ar eR (ar vQ ag (pv 1)) ag) ab))) ab)))))))),?_⟩
  obtain ⟨f1,IV,M1,F1,B1⟩:=T.look
  obtain ⟨f2,fd2,M2,F2,B2⟩:=T.take
  obtain ⟨f3,fd3,M3,F3,B3⟩:=T.nnum
  obtain ⟨dx,ho⟩:=hR.ob
  have hz:=Ca hA
  refine ⟨_,rfl,a,dx,C,f1,_,IV,1,["self"],_,rfl,ho,rfl,T.cl,M1,F1,IS,B1,a,l,ts,k,me,zt e,rfl,hR,hz,?_⟩
  refine ⟨?_,?_,?_⟩
  ·rintro H' ⟨rfl,x,rfl⟩
   cases m with
   | zero=>exact absurd hE (by simp [ca])
   | succ m=>
    refine ⟨_,rfl,_,rfl,_,rfl,_,_,rfl,rfl,a,l,ts,k,me,x,w,b+1,rfl,by lia,hw,hR,hA,hE,q⟩
  ·rintro H' ⟨rfl,hnc⟩
   refine ⟨?_,?_,?_⟩
   ·rintro H' ⟨rfl,o,x,y,rfl⟩
    cases m with
    | zero=>exact absurd hE (by simp [ca])
    | succ m=>
     obtain ⟨h1,h2,h3⟩:=hE
     exact ⟨_,rfl,_,rfl,_,rfl,_,_,rfl,rfl,a,l,ts,k,me,o,x,y,w,b+1,rfl,by lia,hw,hR,hA,h1,h2,h3,q⟩
   ·rintro H' ⟨rfl,hnt⟩
    cases e with
    | cell x=>exact absurd rfl (hnc x)
    | two o x y=>exact absurd rfl (hnt o x y)
    | nm z=>
     have hN:K4 z:=by cases m<;>exact hE
     have hS:=wD z
     refine ⟨_,rfl,z.cps.toList,congrArg (fun x=>[V.str x]) hS,?_,fun H1 s1=>⟨_,rfl,br (B9 hN) ?_⟩⟩
     ·have zl:z.length=z.cps.toList.length:=by show z.cps.size=_;simp
      have:=hN.2.2.1
      lia
     refine ⟨_,rfl,a,dx,C,f2,_,fd2,1,["self"],_,rfl,s1 _ _ ho,rfl,T.cl,M2,F2,IS,B2,a,l,ts,k,me,z,rfl,hR.same s1,hz,fun H2 r2 b2=>?_⟩
     refine ⟨aW,fun p np=>?_⟩
     have s3:=ad (o:=.tup [.str "name",.str z]) np
     exact q _ _ (r2.same s3) (((bO s1).trans b2).same s3) ⟨p,rfl,ac⟩
    | num i=>
     have hi:i < 2 ^ w:=by cases m<;>exact hE
     have h24:2 ^ w<=2 ^ 24:=Hk (by decide) hw
     have hS:=gm i
     refine ⟨_,rfl,dg i,congrArg (fun x=>[V.str x]) hS,?_,fun H1 s1=>⟨_,rfl,aZ (Eg i) ?_⟩⟩
     ·have:=(gl i).2 8 (by decide) (by lia)
      lia
     have hpw:(1*2 ^ ((w:Int)).toNat - 1:Int)=((2 ^ w - 1:Nat):Int):=by
      rw [HL,Int.one_mul]
      have:0 < 2 ^ w:=Nat.pow_pos (by decide)
      have e2:((2 ^ w:Nat):Int)=(2:Int) ^ w:=by norm_cast
      lia
     refine ⟨_,rfl,a,dx,C,f3,_,fd3,3,["self","low","high"],_,rfl,s1 _ _ ho,rfl,T.cl,M3,F3,hr3,B3,_,rfl,_,_,rfl,rfl,⟨by lia,by lia,by decide⟩,_,_,rfl,rfl,a,l,ts,k,me,i,0,2 ^ w - 1,?_,hR.same s1,hz,by lia,by lia,by lia,fun H2 r2 b2=>?_⟩
     ·show [V.ref a,V.int 0,V.int (1*2 ^ ((w:Int)).toNat - 1)]=_
      rw [hpw]
      rfl
     refine ⟨aW,fun p np=>?_⟩
     have s3:=ad (o:=.tup [.str "number",.int (i:Nat)]) np
     exact q _ _ (r2.same s3) (((bO s1).trans b2).same s3) ⟨p,rfl,ac⟩
   ·refine ⟨_,rfl,_,_,rfl,rfl,_,rfl,?_⟩
    by_cases ht:∃ o x y,e=.two o x y
    ·obtain ⟨o,x,y,rfl⟩:=ht
     have hm:m≠0:=by
      rintro rfl
      simp [ca] at hE
     refine br (decide_eq_true (by lia)) ⟨_,rfl,rfl,_,rfl,br (decide_eq_true rfl) ⟨rfl,o,x,y,rfl⟩⟩
    ·have hnt:∀ o x y,e≠.two o x y:=fun o x y h=>ht ⟨o,x,y,h⟩
     refine bU (fun _=>⟨_,rfl,rfl,_,rfl,aZ (decide_eq_false fun h=>wU hE hnt (V.str.inj h)) ⟨rfl,hnt⟩⟩) (fun _=>ck ⟨rfl,hnt⟩)
  ·refine ⟨_,rfl,_,_,rfl,rfl,_,rfl,?_⟩
   by_cases ht:∃ x,e=.cell x
   ·obtain ⟨x,rfl⟩:=ht
    have hm:m≠0:=by
     rintro rfl
     simp [ca] at hE
    refine br (decide_eq_true (by lia)) ⟨_,rfl,rfl,_,rfl,br (decide_eq_true rfl) ⟨rfl,x,rfl⟩⟩
   ·have hnt:∀ x,e≠.cell x:=fun x h=>ht ⟨x,h⟩
    refine bU (fun _=>⟨_,rfl,rfl,_,rfl,aZ (decide_eq_false fun h=>wT hE hnt (V.str.inj h)) ⟨rfl,hnt⟩⟩) (fun _=>ck ⟨rfl,hnt⟩)
def dv:List Str:=["place","mark","number","row"]
structure rP (K:ZF) (mg:Str->Option Value) (aS aE aF:Addr) (t1 t2 t3 t4:Tok):Prop where
 sorts:mg "SORTS"=some (.ref aS)
 sortsq:∀ H,KP K H aS (ai dv)
 ends:mg "ENDS"=some (.ref aE)
 endsq:∀ H,KP K H aE (ai ["next","go","call","back","stop","fault"])
 owf:mg "OWN_FAULTS"=some (.ref aF)
 owfq:∀ H,KP K H aF (ai ["deep","bare"])
 mf:mg "MOST_FIELDS"=some (.int 3 t1)
 ms:mg "MOST_SETS"=some (.int 4 t2)
 mc:mg "MOST_CHOICES"=some (.int 3 t3)
 mkn:mg "MOST_KINDS"=some (.int 8 t4)
inductive Lf (H:Hp) (u:V) (x:Str×Str):Prop
 | mk (p:_):u=.ref p->H p=some (.tup [.str x.1,.str x.2])->Lf H u x
inductive ou (C:Addr) (vs:List V) (H:Hp) (Q:VK) (Z3:XK):Prop
 | mk (a l ts k me:_) (x:Str×Str):vs=[.ref a]->Lb C H a l ts k me->(tz ts)[k]?=some x.1->K4 x.1->(tz ts)[k+1]?=some x.2->x.2∈dv->(∀ p H',Lb C H' a l ts (k+2) me->K0 a H H'->H p=none->H' p=some (.tup [.str x.1,.str x.2])->Q (.ref p) H')->ou C vs H Q Z3
variable {p dx:Addr}
theorem iV {a:Addr} {fs:List (Str×V)} (b:K0 a H H') (ho:H' a=some (.ins C dx fs)) (n:H' p=none):H p=none:=by
 by_cases h:p=a
 ·subst h
  rw [ho] at n
  cases n
 ·cases hx:H p with
  | none=>rfl
  | some o=>
   have:=b _ _ hx h
   rw [n] at this
   cases this
theorem MS:ay ["reader","name"] ["reader"] (aj ij):=cH (by decide +kernel)
theorem wV (F:K7 K "read_field" "read_field" ij f fd) (T:qO P w K mg base C) (Z:rP K mg aS aE aF t1 t2 t3 t4):KU P w K mg base bY 3 f fd ["reader"] (ou C):=by
 have ZZ:=MS
 walk_at "o"
 ·obtain ⟨a,l,ts,k,me,x,rfl,hR,h0,hn,h1,hs,q⟩:=h
  refine ⟨_,ae (ap (i:=1) MS.nd rfl (Or.inl rfl) (KR (pv 0))) (ah (ao (aC (aa (pv 1) (aa (KZ (pv 0) (aa (bx (v:=.ref aS) rfl Z.sorts rfl) ab)) ab))))),?_⟩
  obtain ⟨f1,IV,M1,F1,B1⟩:=T.need
  obtain ⟨f2,fd2,M2,F2,B2⟩:=T.nname
  obtain ⟨dx,ho⟩:=hR.ob
  refine ⟨_,rfl,a,dx,C,f2,_,fd2,2,["self"],_,rfl,ho,rfl,T.cl,M2,F2,hr,B2,a,l,ts,k,me,x.1,rfl,hR,h0,hn,fun H1 r1 b1=>?_⟩
  obtain ⟨dx1,ho1⟩:=r1.ob
  refine ⟨_,rfl,_,rfl,a,dx1,C,f1,_,IV,2,["self","words"],_,rfl,ho1,rfl,T.cl,M1,F1,hr,B1,a,l,ts,k+1,me,x.2,aS,dv,rfl,r1,h1,.inr (Z.sortsq _),hs,fun H2 r2 b2=>?_⟩
  obtain ⟨dx2,ho2⟩:=r2.ob
  refine ⟨aW,fun p np=>?_⟩
  have s3:=ad (o:=.tup [.str x.1,.str x.2]) np
  exact q p _ (r2.same s3) ((b1.trans b2).same s3) (iV (b1.trans b2) ho2 np) ac
inductive lM (C:Addr) (vs:List V) (H:Hp) (Q:VK) (Z3:XK):Prop
 | mk (a l ts k me e:_):vs=[.ref a]->Lb C H a l ts k me->At ts k (fH e)->lJ e->(∀ v H',Lb C H' a l ts (k+(fH e).length) me->K0 a H H'->NG H' e v->Q v H')->lM C vs H Q Z3
inductive rQ (C:Addr) (vs:List V) (H:Hp) (Q:VK) (Z3:XK):Prop
 | mk (a l ts k me g:_) (w:Nat) (cf:Bool):vs=[.ref a,.int w,.bl cf]->w<=24->(g.isCell=true->cf=true)->Lb C H a l ts k me->At ts k (gW g)->fG w g->(∀ v H',Lb C H' a l ts (k+(gW g).length) me->K0 a H H'->Mf H' g v->Q v H')->rQ C vs H Q Z3
inductive ow (C:Addr) (vs:List V) (H:Hp) (Q:VK) (Z3:XK):Prop
 | mk (a l ts k me s e:_) (w:Nat):vs=[.ref a,.int w]->w<=24->Lb C H a l ts k me->At ts k (bE s++fH e)->dq w 0 (.leaf s e)->(∀ v H',Lb C H' a l ts (k+(bE s++fH e).length) me->K0 a H H'->M6 H' (.leaf s e) v->Q v H')->ow C vs H Q Z3
variable {v:V} {e:En}
theorem NG.kt (k:K5 H H') (h:NG H e v):NG H' e v:=let ⟨p,a,b⟩:=h;⟨p,a,k _ _ b⟩
def yI:En->Str
 | .w0 s=>s
 | .w1 s _=>s
theorem ox (h:lJ e):yI e∈(["next","go","call","back","stop","fault"]:List Str):=by
 cases e with
 | w0 s=>
  have h':s∈(["next","back","stop"]:List Str):=h
  simp only [GF,GH,or_false] at h'
  show s∈_
  rcases h' with rfl|rfl|rfl<;>decide +kernel
 | w1 s z=>
  have h':s∈(["go","call","fault"]:List Str):=h.1
  simp only [GF,GH,or_false] at h'
  show s∈_
  rcases h' with rfl|rfl|rfl<;>decide +kernel
theorem wW {k:Nat} (h:At ts k (fH e)):(tz ts)[k]?=some (yI e):=by
 cases e with
 | w0 s=>exact h.hd
 | w1 s z=>exact h.hd
theorem ND:ay ["reader","end"] ["reader"] (aj lA):=cH (by decide +kernel)
theorem zu (F:K7 K "read_end" "read_end" lA f fd) (T:qO P w K mg base C) (Z:rP K mg aS aE aF t1 t2 t3 t4):KU P w K mg base bY 3 f fd ["reader"] (lM C):=by
 have ZZ:=ND
 walk_at "o"
 ·obtain ⟨a,l,ts,k,me,e,rfl,hR,hA,hE,q⟩:=h
  have IS:KY 1 _:=hr.mono (by decide)
  refine ⟨_,ae (ap (i:=1) ND.nd rfl (Or.inl rfl) (KZ (pv 0) (aa (bx (v:=.ref aE) rfl Z.ends rfl) ab)))
   (ae (aM (c6 (fun _ _=>False) (fun _ H'=>Lb C H' a l ts (k+1) me/\K0 a H H') (PW.pt (bZ (ak be (pv 1) af (av _)) (bJ (ak dh (KR (pv 0)) (bx (v:=.ref aF) rfl Z.owf rfl) rfl))))) (ah cN) aH)
   (ae (aM (ak dh (pv 1) (aC (aa af (aa af (aa af ab)))) rfl) (ah (ao (aC (aa (pv 1) (aa (KR (pv 0)) ab))))) aH)
   (ah (ao (aC (aa (pv 1) ab)))))),?_⟩
  obtain ⟨f1,IV,M1,F1,B1⟩:=T.need
  obtain ⟨f2,fd2,M2,F2,B2⟩:=T.nname
  obtain ⟨f3,fd3,M3,F3,B3⟩:=T.look
  obtain ⟨dx,ho⟩:=hR.ob
  refine ⟨_,rfl,a,dx,C,f1,_,IV,2,["self","words"],_,rfl,ho,rfl,T.cl,M1,F1,hr,B1,a,l,ts,k,me,yI e,aE,["next","go","call","back","stop","fault"],rfl,hR,wW hA,.inr (Z.endsq _),ox hE,fun H1 r1 b1=>?_⟩
  refine ⟨fun _ z=>z.elim,?_,?_⟩
  ·rintro H2 ⟨r2,b2⟩
   obtain ⟨dx2,ho2⟩:=r2.ob
   refine ⟨_,rfl,aW,fun t3' n3=>?_⟩
   have s3:=ad (o:=.tup [.str "go",.str "call",.str "fault"]) n3
   have e3:iH (.str (yI e)) [.str "go",.str "call",.str "fault"]=(["go","call","fault"]:List Str).contains (yI e):=c7 _ ["go","call","fault"]
   refine ⟨t3',_,rfl,.inr (KP.of ac),rfl,rfl,_,rfl,bU (fun h=>?_) (fun h=>?_)⟩
   ·have h':(["go","call","fault"]:List Str).contains (yI e)=true:=by rw [<-e3];exact h
    cases e with
    | w0 s=>
     exfalso
     have h1:s∈(["next","back","stop"]:List Str):=hE
     have h2:s∈(["go","call","fault"]:List Str):=Hh.mp h'
     simp only [GF,GH,or_false] at h1
     rcases h1 with rfl|rfl|rfl<;>revert h2<;>decide +kernel
    | w1 s z=>
     have hA':At ts k [s,z]:=hA
     refine ⟨_,rfl,_,rfl,a,dx2,C,f2,_,fd2,2,["self"],_,rfl,s3 _ _ ho2,rfl,T.cl,M2,F2,hr,B2,a,l,ts,k+1,me,z,rfl,r2.same s3,hA'.tl.hd,hE.2.1,fun H4 r4 b4=>?_⟩
     refine ⟨aW,fun p np=>?_⟩
     have s5:=ad (o:=.tup [.str s,.str z]) np
     exact q _ _ (r4.same s5) (((b2.same s3).trans b4).same s5) ⟨p,rfl,ac⟩
   ·have h':(["go","call","fault"]:List Str).contains (yI e)=false:=by rw [<-e3];exact HV.mpr h
    cases e with
    | w1 s z=>
     exfalso
     have h'':(["go","call","fault"]:List Str).contains s=false:=h'
     rw [Hh.mpr hE.1] at h''
     cases h''
    | w0 s=>
     refine ⟨_,rfl,aW,fun p np=>?_⟩
     have s5:=ad (o:=.tup [.str s]) np
     exact q _ _ ((r2.same s3).same s5) ((b2.same s3).same s5) ⟨p,rfl,ac⟩
  ·obtain ⟨dx1,ho1⟩:=r1.ob
   refine ⟨_,rfl,rfl,_,rfl,bU (fun h=>?_) (fun h=>ck ⟨r1,b1⟩)⟩
   have hf:yI e="fault":=V.str.inj (of_decide_eq_true h)
   cases e with
   | w0 s=>
    exfalso
    have h1:s∈(["next","back","stop"]:List Str):=hE
    have h2:s="fault":=hf
    rw [h2] at h1
    revert h1
    decide +kernel
   | w1 s z=>
    have hA':At ts k [s,z]:=hA
    have hs:s="fault":=hf
    have hz:=hE.2.2 hs
    have e3:iH (.str z) (ai ["deep","bare"])=(["deep","bare"]:List Str).contains z:=c7 _ _
    refine ⟨_,rfl,a,dx1,C,f3,_,fd3,1,["self"],_,rfl,ho1,rfl,T.cl,M3,F3,IS,B3,a,l,ts,k+1,me,z,rfl,r1,hA'.tl.hd,aF,_,rfl,.inr (Z.owfq _),rfl,dZ _,_,rfl,aZ ?_ ⟨r1,b1⟩⟩
    show iH (.str z) (ai ["deep","bare"])=false
    rw [e3]
    exact HV.mpr fun h=>hz (Hh.mp h)
def jY:Gs->List Str
 | .cell a _=>("[":Str)::(bP a++[("]":Str)])
 | .nm z _=>[z]
def iW:Gs->Ex
 | .cell _ e=>e
 | .nm _ e=>e
theorem lN (g:Gs):gW g=jY g++("=":Str)::(bP (iW g)++[(";":Str)]):=by
 cases g with
 | cell a e=>
  show ("[":Str)::(bP a++("]":Str)::("=":Str)::(bP e++[(";":Str)]))=(("[":Str)::(bP a++[("]":Str)]))++_
  simp [iW]
 | nm z e=>rfl
def HdV (H:Hp) (g:Gs) (u:V):Prop:=match g with
 | .cell a _=>Mh H a u
 | .nm z _=>u=.str z
variable {u:V} {g:Gs}
theorem HdV.kt (k:K5 H H') (h:HdV H g u):HdV H' g u:=by
 cases g with
 | cell a e=>exact Mh.kt k h
 | nm z e=>exact h
def uU:Gs->Str
 | .cell _ _=>"cell"
 | .nm _ _=>"name"
theorem Ej {w:Nat} (h:fG w g):ca w 3 (iW g):=by
 cases g with
 | cell a e=>exact h.2
 | nm z e=>exact h.2
theorem LP:ay ["reader","width","cell_free","sort","given","word"] ["reader","width","cell_free"] (aj lj):=cH (by decide +kernel)
theorem zw (F:K7 K "read_set" "read_set" lj f fd) (T:qO P w K mg base C) (EX:Fn P w K mg base "read_expression" n ["reader","width","brackets"] (lK C 3)) (hn:3<=n):KU P w K mg base bY (n+1) f fd ["reader","width","cell_free"] (rQ C):=by
 have ZZ:=LP
 walk_at "o"
 ·obtain ⟨a,l,ts,k,me,g,w,cf,rfl,hw,hcf,hR,hA,hG,q⟩:=h
  have IS:KY 1 _:=hr.mono (by lia)
  have IU:KY 2 _:=hr.mono (by lia)
  refine ⟨_,bz (fun σ H'=>∃ ug,σ=[some (.ref a),some (.int (w:Nat)),some (.bl cf),some (.str (uU g)),some ug,none]/\Lb C H' a l ts (k+(jY g).length) me/\K0 a H H'/\HdV H' g ug) (aM (c6 (fun _ H'=>H'=H/\g.isCell=true) (fun _ H'=>H'=H/\g.isCell=false) (PW.pt (bZ (dA (pv 2)) (bJ (ak be (KR (pv 0)) af (av _))))))
     (ae (aN (KR (pv 0))) (ae (ap (i:=3) LP.nd rfl (Or.inl rfl) af) (ae (ap (i:=4) LP.nd rfl (Or.inl rfl) (am EX hr rfl (aa (pv 0) (aa (pv 1) (aa ag ab))))) (ah (aN (KZ (pv 0) (aa (aC (aa af ab)) ab)))))))
     (ae (ap (i:=3) LP.nd rfl (Or.inl rfl) af) (ah (ap (i:=4) LP.nd rfl (Or.inl rfl) (KR (pv 0))))))
   (ae (aN (KZ (pv 0) (aa (aC (aa af ab)) ab)))
   (ae (ap (i:=5) LP.nd rfl (Or.inl rfl) (am EX hr rfl (aa (pv 0) (aa (pv 1) (aa ag ab)))))
   (ae (aN (KZ (pv 0) (aa (aC (aa af ab)) ab)))
   (ah (ao (aC (aa (pv 3) (aa (pv 4) (aa (pv 5) ab))))))))),?_⟩
  obtain ⟨f1,IV,M1,F1,B1⟩:=T.need
  obtain ⟨f2,fd2,M2,F2,B2⟩:=T.nname
  obtain ⟨f3,fd3,M3,F3,B3⟩:=T.look
  obtain ⟨f4,fd4,M4,F4,B4⟩:=T.take
  rw [lN] at hA
  have hA2:=hA.r
  obtain ⟨dx,ho⟩:=hR.ob
  refine ⟨?_,?_,?_,?_⟩
  ·rintro σ H1 ⟨ug,rfl,r1,b1,v1⟩
   obtain ⟨dx1,ho1⟩:=r1.ob
   refine ⟨_,rfl,a,dx1,C,f1,_,IV,2,["self","words"],_,rfl,ho1,rfl,T.cl,M1,F1,IU,B1,aW,fun p2 n2=>?_⟩
   have s2:=ad (o:=.tup [.str "="]) n2
   refine ⟨a,l,ts,k+(jY g).length,me,"=",p2,["="],rfl,r1.same s2,hA2.hd,.inr (KP.of ac),Gz,fun H3 r3 b3=>?_⟩
   have b13:K0 a H1 H3:=(bO s2).trans b3
   have v3:=v1.kt (b13.kt ho1)
   obtain ⟨dx3,ho3⟩:=r3.ob
   refine ⟨_,rfl,_,rfl,a,l,ts,k+(jY g).length+1,me,iW g,w,0,rfl,rfl,hw,r3,hA2.tl.l,Ej hG,fun t H4 r4 b4 v4=>?_⟩
   have v4':=v3.kt (b4.kt ho3)
   obtain ⟨dx4,ho4⟩:=r4.ob
   refine ⟨_,rfl,a,dx4,C,f1,_,IV,2,["self","words"],_,rfl,ho4,rfl,T.cl,M1,F1,IU,B1,aW,fun p5 n5=>?_⟩
   have s5:=ad (o:=.tup [.str ";"]) n5
   refine ⟨a,l,ts,k+(jY g).length+1+(bP (iW g)).length,me,";",p5,[";"],rfl,r4.same s5,hA2.tl.r.hd,.inr (KP.of ac),Gz,fun H6 r6 b6=>?_⟩
   have b46:K0 a H4 H6:=(bO s5).trans b6
   refine ⟨_,rfl,_,rfl,_,rfl,aW,fun p np=>?_⟩
   have s7:=ad (o:=.tup [.str (uU g),ug,t]) np
   have k67:K5 H4 (aI H6 p (.tup [.str (uU g),ug,t])):=(b46.kt ho4).trans (al s7)
   have IQ:k+(gW g).length=k+(jY g).length+1+(bP (iW g)).length+1:=by
    rw [lN]
    simp
    lia
   refine q _ _ (by rw [IQ];exact r6.same s7) ((((b1.trans b13).trans b4).trans b46).same s7) ?_
   have vE:=Mh.kt k67 v4
   have vH:=v4'.kt k67
   cases g with
   | cell a' e'=>exact ⟨p,ug,t,rfl,ac,vH,vE⟩
   | nm z e'=>
    have:ug=.str z:=v1
    subst this
    exact ⟨p,t,rfl,ac,vE⟩
  ·rintro H1 ⟨rfl,hc⟩
   cases g with
   | nm z e=>cases hc
   | cell a' e=>
    have hA':At ts k (("[":Str)::(bP a'++[("]":Str)])):=hA.l
    refine ⟨_,rfl,a,dx,C,f4,_,fd4,1,["self"],_,rfl,ho,rfl,T.cl,M4,F4,IS,B4,a,l,ts,k,me,"[",rfl,hR,hA'.hd,fun H2 r2 b2=>?_⟩
    refine ⟨_,rfl,_,rfl,a,l,ts,k+1,me,a',w,0,rfl,rfl,hw,r2,hA'.tl.l,hG.1,fun u H3 r3 b3 v3=>?_⟩
    obtain ⟨dx3,ho3⟩:=r3.ob
    refine ⟨_,rfl,a,dx3,C,f1,_,IV,2,["self","words"],_,rfl,ho3,rfl,T.cl,M1,F1,IU,B1,aW,fun p5 n5=>?_⟩
    have s5:=ad (o:=.tup [.str "]"]) n5
    refine ⟨a,l,ts,k+1+(bP a').length,me,"]",p5,["]"],rfl,r3.same s5,hA'.tl.r.hd,.inr (KP.of ac),Gz,fun H6 r6 b6=>?_⟩
    have b36:K0 a H3 H6:=(bO s5).trans b6
    have IQ:k+(jY (.cell a' e)).length=k+1+(bP a').length+1:=by
     show k+(("[":Str)::(bP a'++[("]":Str)])).length=_
     simp
     lia
    exact ⟨u,rfl,by rw [IQ];exact r6,(b2.trans b3).trans b36,Mh.kt (b36.kt ho3) v3⟩
  ·rintro H1 ⟨rfl,hc⟩
   cases g with
   | cell a' e=>cases hc
   | nm z e=>
    have hA':At ts k [z]:=hA.l
    refine ⟨_,rfl,a,dx,C,f2,_,fd2,2,["self"],_,rfl,ho,rfl,T.cl,M2,F2,IU,B2,a,l,ts,k,me,z,rfl,hR,hA'.hd,hG.1,fun H2 r2 b2=>?_⟩
    exact ⟨_,rfl,r2,b2,rfl⟩
  ·refine ⟨_,rfl,cf,rfl,?_⟩
   cases g with
   | cell a' e=>
    have hA':At ts k (("[":Str)::(bP a'++[("]":Str)])):=hA.l
    rw [hcf rfl]
    refine pP ⟨_,rfl,a,dx,C,f3,_,fd3,1,["self"],_,rfl,ho,rfl,T.cl,M3,F3,IS,B3,a,l,ts,k,me,"[",rfl,hR,hA'.hd,rfl,_,rfl,br (decide_eq_true rfl) ⟨rfl,rfl⟩⟩
   | nm z e=>
    have hA':At ts k [z]:=hA.l
    refine bU (fun _=>?_) (fun _=>ck ⟨rfl,rfl⟩)
    refine ⟨_,rfl,a,dx,C,f3,_,fd3,1,["self"],_,rfl,ho,rfl,T.cl,M3,F3,IS,B3,a,l,ts,k,me,z,rfl,hR,hA'.hd,rfl,_,rfl,aZ (decide_eq_false fun h=>?_) ⟨rfl,rfl⟩⟩
    have h':=V.str.inj h
    rw [Cb] at h'
    exact oq hG.1 (by simp) h'
variable {X:Cx}
theorem tD (h:X.K=K):DX X (BC K):=by subst h;exact ax
theorem aT {α:Type} {x:α} {r:List α}:nG (x::r) 0=some x:=bf (j:=0) (xs:=x::r) rfl
theorem bQ {α:Type} {x y:α} {r:List α}:nG (x::y::r) 1=some y:=bf (j:=1) (xs:=x::y::r) rfl
theorem gp {α:Type} {x y z:α} {r:List α}:nG (x::y::z::r) 2=some z:=bf (j:=2) (xs:=x::y::z::r) rfl
theorem Ce {α:Type} {x y z u:α} {r:List α}:nG (x::y::z::u::r) 3=some u:=bf (j:=3) (xs:=x::y::z::u::r) rfl
theorem gq {α β:Type} {R:α->β->Prop} {x:α} {y:β} (h:R x y):∀ {xs:List α} {ys:List β},Paired R xs ys->Paired R (xs++[x]) (ys++[y])
 | _,_,.nil=>.cons h .nil
 | _,_,.cons a b=>.cons a (gq h b)
theorem bS {α β:Type} {R R':α->β->Prop} (f:∀ x y,R x y->R' x y):∀ {xs:List α} {ys:List β},Paired R xs ys->Paired R' xs ys
 | _,_,.nil=>.nil
 | _,_,.cons a b=>.cons (f _ _ a) (bS f b)
theorem gr {α β:Type} {R:α->β->Prop}:∀ {xs:List α} {ys:List β},Paired R xs ys->∀ {i:Nat} {x:α},xs[i]?=some x->∃ y,ys[i]?=some y/\R x y
 | _,_,.cons h t,0,x,e=>by
  simp at e
  exact ⟨_,rfl,e ▸ h⟩
 | _,_,.cons h t,i+1,x,e=>by
  obtain ⟨y,a,b⟩:=gr t (i:=i) (x:=x) (by simpa using e)
  exact ⟨y,by simpa using a,b⟩
variable {xs ys:List V}
theorem tE {l:Addr} (e:H l=some (.lst xs)):K5 H (aI H l (.lst ys)):=BM e
theorem M6.kt (k:K5 H H'):∀ {b:Bd} {v:V},M6 H b v->M6 H' b v
 | .leaf _ _,_,⟨p,q,us,u,a,b,c,d,e⟩=>⟨p,q,us,u,a,k _ _ b,k _ _ c,bS (fun _ _ h=>Mf.kt k h) d,e.kt k⟩
 | .ite _ _ _ _,_,⟨p,u,x,y,a,b,⟨t,c,c'⟩,d,e⟩=>⟨p,u,x,y,a,k _ _ b,⟨t,c,k _ _ c'⟩,M6.kt k d,M6.kt k e⟩
def cI (t:Bool) (z:Str):List Str:=if t then ["top",z] else [z]
def zx:Bd->List Str
 | .leaf s e=>bE s++fH e
 | .ite t z y n=>("if":Str)::(cI t z++(cV y++("else":Str)::cV n))
theorem wX (b:Bd):cV b=("{":Str)::(zx b++[("}":Str)]):=by
 cases b with
 | leaf s e=>simp [cV,zx]
 | ite t z y n=>simp [cV,zx,cI]
inductive oy (C:Addr) (vs:List V) (H:Hp) (Q:VK) (Z3:XK):Prop
 | mk (a l ts k me t z:_):vs=[.ref a]->Lb C H a l ts k me->At ts k (cI t z)->K4 z->(∀ v H',Lb C H' a l ts (k+(cI t z).length) me->K0 a H H'->Md H' t z v->Q v H')->oy C vs H Q Z3
inductive kh (C:Addr) (m:Nat) (vs:List V) (H:Hp) (Q:VK) (Z3:XK):Prop
 | mk (a l ts k me b:_) (w c:Nat):vs=[.ref a,.int w,.int c]->c+m=3->w<=24->Lb C H a l ts k me->At ts k (cV b)->dq w m b->(∀ v H',Lb C H' a l ts (k+(cV b).length) me->K0 a H H'->M6 H' b v->Q v H')->kh C m vs H Q Z3
inductive lO (C:Addr) (m:Nat) (vs:List V) (H:Hp) (Q:VK):Prop
 | mk (a l ts k me t z y n:_) (w c:Nat):vs=[.ref a,.int w,.int c]->c+m=3->w<=24->Lb C H a l ts k me->At ts k (zx (.ite t z y n))->K4 z->dq w m y->dq w m n->(∀ v H',Lb C H' a l ts (k+(zx (.ite t z y n)).length) me->K0 a H H'->M6 H' (.ite t z y n) v->Q v H')->lO C m vs H Q
def jH (C:Addr):Nat->Sp
 | 0=>jX
 | m+1=>fun vs H Q _=>lO C m vs H Q
theorem gM:∀ a b:List Gs,bE (a++b)=bE a++bE b
 | [],_=>rfl
 | g::r,b=>by
  show ("set":Str)::(gW g++bE (r++b))=(("set":Str)::(gW g++bE r))++bE b
  rw [gM r b]
  simp
theorem Mf.at (h:Mf H g v):∃ p r,v=.ref p/\H p=some (.tup (.str (uU g)::r)):=by
 cases g with
 | cell a e=>obtain ⟨p,u,t,a,b,_⟩:=h;exact ⟨p,_,a,b⟩
 | nm z e=>obtain ⟨p,t,a,b,_⟩:=h;exact ⟨p,_,a,b⟩
theorem wY (g:Gs):(!decide (V.str (uU g)=V.str "cell"))=!g.isCell:=by
 cases g with
 | cell a e=>rw [decide_eq_true (show V.str (uU (.cell a e))=V.str "cell" from rfl)];rfl
 | nm z e=>rw [decide_eq_false (fun h=>absurd (V.str.inj h) (by show ("name":Str)≠"cell";decide +kernel))];rfl
theorem uV (h:lJ e):yI e≠"set":=by
 have:=ox h
 intro hs
 rw [hs] at this
 revert this
 decide +kernel
theorem MI:ay ["reader","width","sets","cell_free"] ["reader","width"] (aj gH):=cH (by decide +kernel)
theorem zy:(["given"]:List Str).Nodup:=by decide +kernel
theorem wZ (F:K7 K "read_leaf" "read_leaf" gH f fd) (T:qO P w K mg base C) (Z:rP K mg aS aE aF t1 t2 t3 t4) (B:Bl mg) (SR:Fn P w K mg base "read_set" n ["reader","width","cell_free"] (rQ C)) (EN:Fn P w K mg base "read_end" 3 ["reader"] (lM C)) (hn:3<=n):KU P w K mg base bY (n+1) f fd ["reader","width"] (ow C):=by
 have ZZ:=MI
 walk_at "o"
 ·obtain ⟨a,l,ts,k,me,s,e,w,rfl,hw,hR,hA,⟨h4,hG,hU,hE⟩,q⟩:=h
  have IS:KY 1 _:=hr.mono (by lia)
  have hr3:KY 3 _:=hr.mono (by lia)
  have sz:(1000:Nat)<=sizeLine:=by decide
  refine ⟨_,ae (ap (i:=2) MI.nd rfl (Or.inl rfl) (aB ab))
   (ae (fb PassesOwn.never (PW.pt (bZ (ak dD (aQ bj (by rfl) B.len Hf (aa (pv 2) ab)) (bx (v:=.int 4) rfl Z.ms ⟨_,rfl⟩) (av _)) (bJ (ak be (KR (pv 0)) af (av _)))))
    (ae (aN (KR (pv 0)))
    (ae (ap (i:=3) MI.nd rfl (Or.inl rfl) (aQ (iQ rfl) (by rfl) B.all gJ (aa (fV (N':=["given"]) (ix:=[none]) (sc0:=aj gH) (N:=["reader","width","sets","cell_free"]) rfl (by decide +kernel) (fr (pv 2)) (fun C' cl s H fp=>az (i:=0) zy rfl (Or.inl rfl) (.inr rfl)) (fun _ _ _ _ _=>fU) (fun C' cl s H fp=>cn pI (aq (tD (K:=K) rfl) (pv 0) ag (fun _ _=>rfl)) af (av _))) ab)))
    (ah (aN (b9 GS GR GQ bq (pv 2) (aa (am SR hr rfl (aa (pv 0) (aa (pv 1) (aa (pv 3) ab)))) ab)))))))
   (ah (ao (aC (aa af (aa (aU bX (by rfl) B.tuple cx (aa (pv 2) ab)) (aa (am EN hr3 rfl (aa (pv 0) ab)) ab))))))),?_⟩
  obtain ⟨f3,fd3,M3,F3,B3⟩:=T.look
  obtain ⟨f4,fd4,M4,F4,B4⟩:=T.take
  obtain ⟨dx,ho⟩:=hR.ob
  refine ⟨aW,fun ln nn=>?_⟩
  have s1:=ad (o:=.lst []) nn
  have e1:(aI H ln (.lst [])) ln=some (.lst []):=ac
  have lna:ln≠a:=fun z=>by rw [z,ho] at nn;cases nn
  have lnl:l≠ln:=aK hR.tk nn
  generalize aI H ln (.lst ([]:List V))=H1 at *
  refine ⟨fun m σ H'=>∃ (i:Nat) (v3:Option V) (us:List V),i<=s.length/\m=s.length - i/\σ=[some (.ref a),some (.int (w:Nat)),some (.ref ln),v3]/\Lb C H' a l ts (k+(bE (s.take i)).length) me/\K0 a H H'/\H' ln=some (.lst us)/\us.length=i/\Paired (fun v g=>Mf H' g v) us (s.take i),⟨_,0,none,[],Hj _,rfl,rfl,hR.same s1,bO s1,e1,rfl,.nil⟩,?_⟩
  rintro m σ H2 ⟨i,v3,us,hi,rfl,rfl,r2,b2,e2,lu,Ja⟩
  obtain ⟨dx2,ho2⟩:=r2.ob
  refine ⟨_,rfl,ln,_,rfl,.inl (KW.of e2),_,_,rfl,rfl,_,rfl,?_⟩
  by_cases Je:i < s.length
  ·have hg:s[i]?=some s[i]:=GJ Je
   generalize hgg:s[i]=g at *
   have hgm:g∈s:=GM hg
   have etk:s.take (i+1)=s.take i++[g]:=by rw [GX,hg];rfl
   have esp:bE s=bE (s.take i)++(("set":Str)::(gW g++bE (s.drop (i+1)))):=by
    have:s=s.take i++(g::s.drop (i+1)):=by
     have h':=(Hx i s).symm
     rw [Hr Je,hgg] at h'
     exact h'
    conv=>lhs;rw [this,gM]
    rfl
   have hAs:At ts (k+(bE (s.take i)).length) (("set":Str)::(gW g++bE (s.drop (i+1)))):=by
    have:=hA.l
    rw [esp] at this
    exact this.r
   refine br (decide_eq_true (by rw [lu];lia)) ?_
   refine ⟨_,rfl,a,dx2,C,f3,_,fd3,1,["self"],_,rfl,ho2,rfl,T.cl,M3,F3,IS,B3,a,l,ts,_,me,"set",rfl,r2,hAs.hd,rfl,_,rfl,br (decide_eq_true rfl) ?_⟩
   refine ⟨fun σ' H'=>∃ (v3:Option V) (us:List V),σ'=[some (.ref a),some (.int (w:Nat)),some (.ref ln),v3]/\Lb C H' a l ts (k+(bE (s.take (i+1))).length) me/\K0 a H H'/\H' ln=some (.lst us)/\us.length=i+1/\Paired (fun v g=>Mf H' g v) us (s.take (i+1)),fun σ' H' ⟨v3,us,a1,a2,a3,a4,a5,a6⟩=>⟨s.length - (i+1),by lia,i+1,v3,us,Je,rfl,a1,a2,a3,a4,a5,a6⟩,?_⟩
   refine ⟨_,rfl,a,dx2,C,f4,_,fd4,1,["self"],_,rfl,ho2,rfl,T.cl,M4,F4,IS,B4,a,l,ts,_,me,"set",rfl,r2,hAs.hd,fun H3 r3 b3=>?_⟩
   have k23:=b3.kt ho2
   have e3:=b3 _ _ e2 lna
   have hus3:=bS (fun _ _ h=>Mf.kt k23 h) Ja
   refine ⟨_,rfl,ln,rfl,⟨_,KW.of e3⟩,?_⟩
   refine iN (K:=K) (a:=ln) (xs:=us) (fun j ys H'=>H'=H3/\ys=(((s.take i).take j).map fun g=>!g.isCell).map V.bl) ⟨rfl,rfl⟩ (fun j ys H' hj ⟨a1,a2⟩=>by
     subst a1 a2
     refine ⟨KW.of e3,?_⟩
     rw [GC,GC,GG,GG]
     lia) ?_ ?_
   ·rintro j u ys H' hu ⟨rfl,rfl⟩
    obtain ⟨y,hy,hv⟩:=gr hus3 hu
    obtain ⟨p,r,rfl,hp⟩:=hv.at
    refine ⟨trivial,fW ?_⟩
    refine ⟨_,rfl,p,_,_,_,rfl,rfl,KP.of hp,aT,rfl,?_⟩
    rw [wY]
    refine Nx.mk (GA.mp hu).1 ⟨rfl,?_⟩
    rw [GX (l:=s.take i),hy,GK,GK]
    rfl
   rintro ys H' ⟨rfl,rfl⟩ lq nlq
   have eta:(s.take i).take us.length=s.take i:=HF (by rw [GG];lia)
   rw [eta]
   have s4:=ad (o:=.lst (((s.take i).map fun g=>!g.isCell).map V.bl)) nlq
   refine ⟨lq,_,rfl,KW.of ac,?_⟩
   have e4:=s4 _ _ e3
   have r4:=r3.same s4
   have hus4:=bS (fun _ _ h=>Mf.kt (al s4) h) hus3
   generalize aI H' lq (.lst (((s.take i).map fun g=>!g.isCell).map V.bl))=H4 at *
   have hcf:g.isCell=true->((s.take i).map fun g=>!g.isCell).all id=true:=by
    intro hc
    rw [List.all_map,Ht]
    intro x hx
    obtain ⟨jj,hj⟩:=Im hx
    have hjl:jj < (s.take i).length:=(GA.mp hj).1
    rw [GG] at hjl
    rw [List.getElem?_take_of_lt (by lia)] at hj
    show (!x.isCell)=true
    cases hxc:x.isCell with
    | false=>rfl
    | true=>
     have:=hU jj i x g hj hg hxc hc
     lia
   have b24:K0 a H2 H4:=b3.same s4
   refine ⟨_,rfl,.inl ⟨rfl,_,KW.of e4⟩,_,rfl,_,rfl,_,rfl,a,l,ts,k+(bE (s.take i)).length+1,me,g,w,_,rfl,hw,hcf,r4,hAs.tl.l,hG g hgm,fun v5 H5 r5 b5 v5'=>?_⟩
   obtain ⟨dx4,ho4⟩:=r4.ob
   have e5:=b5 _ _ e4 lna
   have k45:=b5.kt ho4
   refine ⟨ln,us,_,rfl,rfl,e5,by lia,?_⟩
   have k6:=tE (ys:=us++[v5]) e5
   obtain ⟨dx5,ho5⟩:=r5.ob
   have IQ:k+(bE (s.take (i+1))).length=k+(bE (s.take i)).length+1+(gW g).length:=by
    rw [etk,gM]
    show k+(bE (s.take i)++(("set":Str)::(gW g++[]))).length=_
    simp
    lia
   refine ⟨_,us++[v5],rfl,?_,?_,ac,by simp [lu],?_⟩
   ·rw [IQ]
    refine ⟨⟨dx5,by rw [aw (Ne.symm lna)];exact ho5⟩,by rw [aw lnl];exact r5.tk,r5.le⟩
   ·intro b o eb nb
    rw [aw (aK eb nn)]
    exact b5 _ _ (b24 _ _ (b2 _ _ eb nb) nb) nb
   ·rw [etk]
    exact gq (R:=fun v g=>Mf (aI H5 ln (.lst (us++[v5]))) g v) (Mf.kt k6 v5') (bS (R:=fun v g=>Mf H4 g v) (fun _ _ h=>Mf.kt k6 (Mf.kt k45 h)) hus4)
  ·have hi':i=s.length:=by lia
   subst hi'
   rw [GV] at Ja r2
   have hAe:At ts (k+(bE s).length) (fH e):=hA.r
   have fin:lM C [.ref a] H2 (fun v3' H3=>Q v3' H3) E0->True:=fun _=>trivial
   have cont:∀ H3,H3=H2->(∃ p ys,[V.ref ln]=[.ref p]/\((KW K H3 p ys/\∀ t,H3 t=none->lM C [.ref a] (aI H3 t (.tup ys)) (fun v4 H4=>3<=sizeLine/\∀ p,H4 p=none->Q (.ref p) (aI H4 p (.tup [.str "leaf",.ref t,v4]))) E0)\/(KP K H3 p ys/\False))):=by
    rintro H3 rfl
    refine ⟨ln,us,rfl,.inl ⟨KW.of e2,fun t nt=>?_⟩⟩
    have s3:=ad (o:=.tup us) nt
    have e3:(aI H3 t (.tup us)) t=some (.tup us):=ac
    have ho3:=s3 _ _ ho2
    generalize aI H3 t (.tup us)=H4 at *
    refine ⟨a,l,ts,_,me,e,rfl,r2.same s3,hAe,hE,fun v5 H5 r5 b5 v5'=>⟨aW,fun p np=>?_⟩⟩
    have s6:=ad (o:=.tup [.str "leaf",.ref t,v5]) np
    have k45:=b5.kt ho3
    have IQ:k+(bE s++fH e).length=k+(bE s).length+(fH e).length:=by
     rw [Gy]
     lia
    refine q _ _ (by rw [IQ];exact r5.same s6) (((b2.same s3).trans b5).same s6) ⟨p,t,us,v5,rfl,ac,s6 _ _ (k45 _ _ e3),bS (fun _ _ h=>Mf.kt (al s6) (Mf.kt k45 (Mf.kt (al s3) h))) Ja,v5'.kt (al s6)⟩
   refine bU (fun _=>?_) (fun _=>ck ?_)
   ·refine ⟨_,rfl,a,dx2,C,f3,_,fd3,1,["self"],_,rfl,ho2,rfl,T.cl,M3,F3,IS,B3,a,l,ts,_,me,yI e,rfl,r2,wW hAe,rfl,_,rfl,aZ (decide_eq_false fun h=>uV hE (V.str.inj h)) ?_⟩
    obtain ⟨p,ys,h1,h2⟩:=cont H2 rfl
    rcases h2 with ⟨h2,h3⟩|⟨_,h3⟩
    ·exact ⟨_,rfl,p,ys,h1,.inl ⟨h2,fun t nt=>⟨_,rfl,h3 t nt⟩⟩⟩
    ·exact h3.elim
   ·obtain ⟨p,ys,h1,h2⟩:=cont H2 rfl
    rcases h2 with ⟨h2,h3⟩|⟨_,h3⟩
    ·exact ⟨_,rfl,p,ys,h1,.inl ⟨h2,fun t nt=>⟨_,rfl,h3 t nt⟩⟩⟩
    ·exact h3.elim
theorem zA:ay ["reader"] ["reader"] (aj jv):=cH (by decide +kernel)
theorem w8 (F:K7 K "read_test" "read_test" jv f fd) (T:qO P w K mg base C):KU P w K mg base bY 3 f fd ["reader"] (oy C):=by
 have ZZ:=zA
 walk_at "o"
 ·obtain ⟨a,l,ts,k,me,t,z,rfl,hR,hA,hN,q⟩:=h
  have IS:KY 1 _:=hr.mono (by decide)
  refine ⟨_,ae (aM (ak be (KR (pv 0)) af (av _)) (ah (ao (aC (aa (KR (pv 0)) (aa (KR (pv 0)) ab))))) aH)
   (ah (ao (aC (aa af (aa (KR (pv 0)) ab))))),?_⟩
  obtain ⟨f2,fd2,M2,F2,B2⟩:=T.nname
  obtain ⟨f3,fd3,M3,F3,B3⟩:=T.look
  obtain ⟨f4,fd4,M4,F4,B4⟩:=T.take
  obtain ⟨dx,ho⟩:=hR.ob
  cases t with
  | true=>
   have hA':At ts k [("top":Str),z]:=hA
   refine ⟨_,rfl,a,dx,C,f3,_,fd3,1,["self"],_,rfl,ho,rfl,T.cl,M3,F3,IS,B3,a,l,ts,k,me,"top",rfl,hR,hA'.hd,rfl,_,rfl,br (decide_eq_true rfl) ?_⟩
   refine ⟨_,rfl,a,dx,C,f4,_,fd4,1,["self"],_,rfl,ho,rfl,T.cl,M4,F4,IS,B4,a,l,ts,k,me,"top",rfl,hR,hA'.hd,fun H1 r1 b1=>?_⟩
   obtain ⟨dx1,ho1⟩:=r1.ob
   refine ⟨_,rfl,a,dx1,C,f2,_,fd2,2,["self"],_,rfl,ho1,rfl,T.cl,M2,F2,hr,B2,a,l,ts,k+1,me,z,rfl,r1,hA'.tl.hd,hN,fun H2 r2 b2=>⟨aW,fun p np=>?_⟩⟩
   have s3:=ad (o:=.tup [.str "top",.str z]) np
   exact q _ _ (r2.same s3) ((b1.trans b2).same s3) ⟨p,rfl,ac⟩
  | false=>
   have hA':At ts k [z]:=hA
   have Jb:z≠"top":=fun e=>by
    have:=hN.1
    rw [e] at this
    exact this (by decide +kernel)
   refine ⟨_,rfl,a,dx,C,f3,_,fd3,1,["self"],_,rfl,ho,rfl,T.cl,M3,F3,IS,B3,a,l,ts,k,me,z,rfl,hR,hA'.hd,rfl,_,rfl,aZ (decide_eq_false fun h=>Jb (V.str.inj h)) ?_⟩
   refine ⟨_,rfl,a,dx,C,f2,_,fd2,2,["self"],_,rfl,ho,rfl,T.cl,M2,F2,hr,B2,a,l,ts,k,me,z,rfl,hR,hA'.hd,hN,fun H2 r2 b2=>⟨aW,fun p np=>?_⟩⟩
   have s3:=ad (o:=.tup [.str "if",.str z]) np
   exact q _ _ (r2.same s3) (b2.same s3) ⟨p,rfl,ac⟩
theorem LR:ay ["reader","width","choices","test","yes"] ["reader","width","choices"] (aj gh):=cH (by decide +kernel)
theorem Md.kt (k:K5 H H') {t:Bool} (h:Md H t z v):Md H' t z v:=let ⟨p,a,b⟩:=h;⟨p,a,k _ _ b⟩
theorem iA (F:K7 K "read_choice" "read_choice" gh f fd) (T:qO P w K mg base C) (TE':Fn P w K mg base "read_test" 3 ["reader"] (oy C)) (BD:Fn P w K mg base "read_body" n ["reader","width","choices"] (kh C m)) (hn:3<=n):KU P w K mg base bY (n+1) f fd ["reader","width","choices"] (jH C (m+1)):=by
 have ZZ:=LR
 walk_at "o"
 ·obtain ⟨a,l,ts,k,me,t,z,y,n',w,c,rfl,hc,hw,hR,hA,hN,hY,hM,q⟩:=h
  have IU:KY 2 _:=hr.mono (by lia)
  have hr3:KY 3 _:=hr.mono (by lia)
  refine ⟨_,ae (aN (KZ (pv 0) (aa (aC (aa af ab)) ab)))
   (ae (ap (i:=3) LR.nd rfl (Or.inl rfl) (am TE' hr3 rfl (aa (pv 0) ab)))
   (ae (ap (i:=4) LR.nd rfl (Or.inl rfl) (am BD hr rfl (aa (pv 0) (aa (pv 1) (aa (pv 2) ab)))))
   (ae (aN (KZ (pv 0) (aa (aC (aa af ab)) ab)))
   (ah (ao (aC (aa af (aa (pv 3) (aa (pv 4) (aa (am BD hr rfl (aa (pv 0) (aa (pv 1) (aa (pv 2) ab)))) ab)))))))))),?_⟩
  obtain ⟨f1,IV,M1,F1,B1⟩:=T.need
  obtain ⟨dx,ho⟩:=hR.ob
  have hA':At ts k (("if":Str)::(cI t z++(cV y++("else":Str)::cV n'))):=hA
  have hA2:=hA'.tl.r
  have hA3:=hA2.r
  refine ⟨_,rfl,a,dx,C,f1,_,IV,2,["self","words"],_,rfl,ho,rfl,T.cl,M1,F1,IU,B1,aW,fun p1 n1=>?_⟩
  have s1:=ad (o:=.tup [.str "if"]) n1
  refine ⟨a,l,ts,k,me,"if",p1,["if"],rfl,hR.same s1,hA'.hd,.inr (KP.of ac),Gz,fun H1 r1 b1=>?_⟩
  have b01:K0 a H H1:=(bO s1).trans b1
  refine ⟨_,rfl,a,l,ts,k+1,me,t,z,rfl,r1,hA'.tl.l,hN,fun u H2 r2 b2 v2=>?_⟩
  obtain ⟨dx2,ho2⟩:=r2.ob
  refine ⟨_,rfl,_,rfl,_,rfl,a,l,ts,k+1+(cI t z).length,me,y,w,c,rfl,hc,hw,r2,hA2.l,hY,fun x H3 r3 b3 v3=>?_⟩
  obtain ⟨dx3,ho3⟩:=r3.ob
  refine ⟨_,rfl,a,dx3,C,f1,_,IV,2,["self","words"],_,rfl,ho3,rfl,T.cl,M1,F1,IU,B1,aW,fun p4 n4=>?_⟩
  have s4:=ad (o:=.tup [.str "else"]) n4
  refine ⟨a,l,ts,k+1+(cI t z).length+(cV y).length,me,"else",p4,["else"],rfl,r3.same s4,hA3.hd,.inr (KP.of ac),Gz,fun H5 r5 b5=>?_⟩
  have b35:K0 a H3 H5:=(bO s4).trans b5
  obtain ⟨dx5,ho5⟩:=r5.ob
  refine ⟨_,rfl,_,rfl,_,rfl,_,rfl,_,rfl,a,l,ts,k+1+(cI t z).length+(cV y).length+1,me,n',w,c,rfl,hc,hw,r5,hA3.tl,hM,fun x2 H6 r6 b6 v6=>⟨aW,fun p np=>?_⟩⟩
  have s7:=ad (o:=.tup [.str "if",u,x,x2]) np
  have k67:=al s7
  have k56:=b6.kt ho5
  have k35:=b35.kt ho3
  have IQ:k+(zx (.ite t z y n')).length=k+1+(cI t z).length+(cV y).length+1+(cV n').length:=by
   show k+(("if":Str)::(cI t z++(cV y++("else":Str)::cV n'))).length=_
   simp
   lia
  refine q _ _ (by rw [IQ];exact r6.same s7) (((((b01.trans b2).trans b3).trans b35).trans b6).same s7) ⟨p,u,x,x2,rfl,ac,?_,?_,?_⟩
  ·exact ((((v2.kt (b3.kt ho2)).kt k35).kt k56).kt k67)
  ·exact ((v3.kt k35).kt k56).kt k67
  ·exact v6.kt k67
theorem Mu:ay ["reader","width","choices","body"] ["reader","width","choices"] (aj ju):=cH (by decide +kernel)
theorem tH {w m:Nat} {s:List Gs} (h:dq w m (.leaf s e)):dq w 0 (.leaf s e):=by cases m<;>exact h
theorem iX (F:K7 K "read_body" "read_body" ju f fd) (T:qO P w K mg base C) (Z:rP K mg aS aE aF t1 t2 t3 t4) (CH:Fn P w K mg base "read_choice" n ["reader","width","choices"] (jH C m)) (LF:Fn P w K mg base "read_leaf" n ["reader","width"] (ow C)) (hn:3<=n):KU P w K mg base bY (n+1) f fd ["reader","width","choices"] (kh C m):=by
 have ZZ:=Mu
 walk_at "o"
 ·obtain ⟨a,l,ts,k,me,b,w,c,rfl,hc,hw,hR,hA,hB,q⟩:=h
  have IS:KY 1 _:=hr.mono (by lia)
  have IU:KY 2 _:=hr.mono (by lia)
  refine ⟨_,ae (aN (KZ (pv 0) (aa (aC (aa af ab)) ab)))
   (bz (fun σ H'=>∃ u,σ=[some (.ref a),some (.int (w:Nat)),some (.int (c:Nat)),some u]/\Lb C H' a l ts (k+1+(zx b).length) me/\K0 a H H'/\M6 H' b u) (aM (c6 (fun _ H'=>(Lb C H' a l ts (k+1) me/\K0 a H H')/\∃ t z y n,b=.ite t z y n) (fun _ H'=>(Lb C H' a l ts (k+1) me/\K0 a H H')/\∃ s e,b=.leaf s e) (PW.pt (bZ (ak dD (pv 2) (bx (v:=.int 3) rfl Z.mc ⟨_,rfl⟩) (av _)) (bJ (ak be (KR (pv 0)) af (av _))))))
     (ah (ap (i:=3) Mu.nd rfl (Or.inl rfl) (am CH hr rfl (aa (pv 0) (aa (pv 1) (aa (ar bW (pv 2) ag) ab))))))
     (ah (ap (i:=3) Mu.nd rfl (Or.inl rfl) (am LF hr rfl (aa (pv 0) (aa (pv 1) ab))))))
   (ae (aN (KZ (pv 0) (aa (aC (aa af ab)) ab)))
   (ah (ao (pv 3))))),?_⟩
  obtain ⟨f1,IV,M1,F1,B1⟩:=T.need
  obtain ⟨f3,fd3,M3,F3,B3⟩:=T.look
  obtain ⟨dx,ho⟩:=hR.ob
  rw [wX] at hA
  have hA2:=hA.tl
  refine ⟨_,rfl,a,dx,C,f1,_,IV,2,["self","words"],_,rfl,ho,rfl,T.cl,M1,F1,IU,B1,aW,fun p1 n1=>?_⟩
  have s1:=ad (o:=.tup [.str "{"]) n1
  refine ⟨a,l,ts,k,me,"{",p1,["{"],rfl,hR.same s1,hA.hd,.inr (KP.of ac),Gz,fun H1 r1 b1=>?_⟩
  have b01:K0 a H H1:=(bO s1).trans b1
  refine ⟨?_,?_,?_,?_⟩
  ·rintro σ H2 ⟨u,rfl,r2,b2,v2⟩
   obtain ⟨dx2,ho2⟩:=r2.ob
   refine ⟨_,rfl,a,dx2,C,f1,_,IV,2,["self","words"],_,rfl,ho2,rfl,T.cl,M1,F1,IU,B1,aW,fun p3 n3=>?_⟩
   have s3:=ad (o:=.tup [.str "}"]) n3
   refine ⟨a,l,ts,k+1+(zx b).length,me,"}",p3,["}"],rfl,r2.same s3,hA2.r.hd,.inr (KP.of ac),Gz,fun H4 r4 b4=>?_⟩
   have b24:K0 a H2 H4:=(bO s3).trans b4
   have IQ:k+(cV b).length=k+1+(zx b).length+1:=by
    rw [wX]
    simp
    lia
   exact ⟨_,rfl,q _ _ (by rw [IQ];exact r4) (b2.trans b24) (v2.kt (b24.kt ho2))⟩
  ·rintro H2 ⟨⟨r2,b2⟩,t,z,y,n',rfl⟩
   cases m with
   | zero=>exact absurd hB (by simp [dq])
   | succ m=>
    obtain ⟨h1,h2,h3⟩:=hB
    refine ⟨_,rfl,_,rfl,_,rfl,_,_,rfl,rfl,a,l,ts,k+1,me,t,z,y,n',w,c+1,rfl,by lia,hw,r2,hA2.l,h1,h2,h3,fun v3 H3 r3 b3 v3'=>?_⟩
    exact ⟨v3,rfl,r3,b2.trans b3,v3'⟩
  ·rintro H2 ⟨⟨r2,b2⟩,ss,e,rfl⟩
   refine ⟨_,rfl,_,rfl,a,l,ts,k+1,me,ss,e,w,rfl,hw,r2,hA2.l,tH hB,fun v3 H3 r3 b3 v3'=>?_⟩
   exact ⟨v3,rfl,r3,b2.trans b3,v3'⟩
  ·obtain ⟨dx1,ho1⟩:=r1.ob
   refine ⟨_,rfl,_,_,rfl,rfl,_,rfl,?_⟩
   cases b with
   | ite t z y n'=>
    have hm:m≠0:=by
     rintro rfl
     simp [dq] at hB
    have hA3:At ts (k+1) (("if":Str)::(cI t z++(cV y++("else":Str)::cV n'))):=hA2.l
    refine br (decide_eq_true (by lia)) ⟨_,rfl,a,dx1,C,f3,_,fd3,1,["self"],_,rfl,ho1,rfl,T.cl,M3,F3,IS,B3,a,l,ts,k+1,me,"if",rfl,r1,hA3.hd,rfl,_,rfl,br (decide_eq_true rfl) ⟨⟨r1,b01⟩,t,z,y,n',rfl⟩⟩
   | leaf ss e=>
    refine bU (fun _=>?_) (fun _=>ck ⟨⟨r1,b01⟩,ss,e,rfl⟩)
    have hAl:At ts (k+1) (bE ss++fH e):=hA2.l
    have htok:∃ tk,(tz ts)[k+1]?=some tk/\tk≠"if":=by
     cases ss with
     | nil=>
      have hAe:At ts (k+1) (fH e):=hAl
      have hE:lJ e:=(tH hB).2.2.2
      refine ⟨_,wW hAe,fun h=>?_⟩
      have:=ox hE
      rw [h] at this
      revert this
      decide +kernel
     | cons g r=>
      have hAe:At ts (k+1) ((("set":Str)::(gW g++bE r))++fH e):=hAl
      exact ⟨_,hAe.hd,by decide +kernel⟩
    obtain ⟨tk,htk,Jb⟩:=htok
    refine ⟨_,rfl,a,dx1,C,f3,_,fd3,1,["self"],_,rfl,ho1,rfl,T.cl,M3,F3,IS,B3,a,l,ts,k+1,me,tk,rfl,r1,htk,rfl,_,rfl,aZ (decide_eq_false fun h=>Jb (V.str.inj h)) ⟨⟨r1,b01⟩,ss,e,rfl⟩⟩
theorem Lf.kt (k:K5 H H') {x:Str×Str} (h:Lf H u x):Lf H' u x:=let ⟨p,a,b⟩:=h;⟨p,a,k _ _ b⟩
def rR (ts:List Str) (k:Nat) (fs:List (Str×Str)):Prop:=∀ i (h:i < fs.length),(tz ts)[k+3*i]?=some fs[i].1/\K4 fs[i].1/\(tz ts)[k+3*i+1]?=some fs[i].2/\fs[i].2∈dv/\(i+1 < fs.length->(tz ts)[k+3*i+2]?=some ",")
inductive lP (C:Addr) (vs:List V) (H:Hp) (Q:VK) (Z3:XK):Prop
 | mk (a l ts k me fs:_):vs=[.ref a]->Lb C H a l ts k me->(tz ts)[k]?=some "("->rR ts (k+1) fs->(tz ts)[k+1+(3*fs.length - 1)]?=some ")"->fs.length<=3->(∀ p us H',Lb C H' a l ts (k+2+(3*fs.length - 1)) me->K0 a H H'->H p=none->H' p=some (.tup us)->Paired (Lf H') us fs->Q (.ref p) H')->lP C vs H Q Z3
structure FI (C:Addr) (H:Hp) (a l:Addr) (ts:List Str) (k:Nat) (me:Bool) (fs:List (Str×Str)) (j:Nat) (lf:Addr) (H':Hp):Prop where
 rd:Lb C H' a l ts (k+(3*j - 1)) me
 bt:K0 a H H'
 nf:H lf=none
 la:lf≠a
 ll:lf≠l
 ls:∃ us,H' lf=some (.lst us)/\us.length=j/\Paired (Lf H') us (fs.take j)
theorem FI.more {a l:Addr} {k:Nat} {me:Bool} {fs:List (Str×Str)} {j:Nat} {lf:Addr} {H3 H4:Hp} {p:Addr} {us:List V} (I:FI C H a l ts k me fs j lf H3) (hj:j < fs.length) (hk:K5 H3 H4) (e4:H4 lf=some (.lst us)) (hu:us.length=j) (hp:Paired (Lf H3) us (fs.take j))
  (r4:Lb C H4 a l ts (k+(3*(j+1) - 1)) me) (b4:K0 a H3 H4) (ep:H4 p=some (.tup [.str fs[j].1,.str fs[j].2])):FI C H a l ts k me fs (j+1) lf (aI H4 lf (.lst (us++[.ref p]))):=by
 have k2:=tE (ys:=us++[V.ref p]) e4
 refine ⟨⟨?_,?_,r4.le⟩,?_,I.nf,I.la,I.ll,us++[.ref p],ac,by simp [hu],?_⟩
 ·obtain ⟨dx,ho⟩:=r4.ob
  exact ⟨dx,by rw [aw I.la.symm];exact ho⟩
 ·rw [aw I.ll.symm]
  exact r4.tk
 ·intro b o e nb
  by_cases h:b=lf
  ·rw [h,I.nf] at e
   cases e
  ·rw [aw h]
   exact b4 _ _ (I.bt _ _ e nb) nb
 ·rw [GX,GJ hj]
  exact gq ⟨p,rfl,k2 _ _ ep⟩ (bS (fun _ _ h=>(h.kt hk).kt k2) hp)
theorem MA:ay ["reader","fields"] ["reader"] (aj gf):=cH (by decide +kernel)
theorem uW (F:K7 K "read_fields" "read_fields" gf f fd) (T:qO P w K mg base C) (Z:rP K mg aS aE aF t1 t2 t3 t4) (B:Bl mg) (FL:Fn P w K mg base "read_field" 3 ["reader"] (ou C)):KU P w K mg base bY 4 f fd ["reader"] (lP C):=by
 have ZZ:=MA
 walk_at "o"
 ·obtain ⟨a,l,ts,k,me,fs,rfl,hR,h0,hf,he,h3,q⟩:=h
  have IS:KY 1 _:=hr.mono (by decide)
  have IU:KY 2 _:=hr.mono (by decide)
  have sz:(1000:Nat)<=sizeLine:=by decide
  refine ⟨_,ae (aN (KZ (pv 0) (aa (aC (aa af ab)) ab)))
   (ae (ap (i:=1) MA.nd rfl (Or.inl rfl) (aB ab))
   (bz (fun σ H'=>∃ j lf,j=min 1 fs.length/\σ=[some (.ref a),some (.ref lf)]/\FI C H a l ts (k+1) me fs j lf H') (aM (ak pI (KR (pv 0)) af (av _)) (ah (aN (b9 GS GR GQ bq (pv 1) (aa (am FL hr rfl (aa (pv 0) ab)) ab)))) aH)
   (bz (fun σ H'=>∃ lf,σ=[some (.ref a),some (.ref lf)]/\FI C H a l ts (k+1) me fs fs.length lf H') (fb PassesOwn.never (PW.pt (bZ (pJ dD dD ag (aQ bj (by rfl) B.len Hf (aa (pv 1) ab)) (bx (v:=.int 3) rfl Z.mf ⟨_,rfl⟩)) (bJ (ak be (KR (pv 0)) af (av _)))))
    (ae (aN (KR (pv 0))) (ah (aN (b9 GS GR GQ bq (pv 1) (aa (am FL hr rfl (aa (pv 0) ab)) ab))))))
   (ae (aN (KZ (pv 0) (aa (aC (aa af ab)) ab)))
   (ah (ao (aU bX (by rfl) B.tuple cx (aa (pv 1) ab)))))))),?_⟩
  obtain ⟨f1,IV,M1,F1,B1⟩:=T.need
  obtain ⟨f2,fd2,M2,F2,B2⟩:=T.take
  obtain ⟨f3,fd3,M3,F3,B3⟩:=T.look
  obtain ⟨dx,ho⟩:=hR.ob
  refine ⟨_,rfl,a,dx,C,f1,_,IV,2,["self","words"],_,rfl,ho,rfl,T.cl,M1,F1,IU,B1,aW,fun p1 n1=>?_⟩
  have s1:=ad (o:=.tup [.str "("]) n1
  refine ⟨a,l,ts,k,me,"(",p1,["("],rfl,hR.same s1,h0,(.inr (KP.of ac)),by simp,fun H1 r1 b1=>?_⟩
  have c1:K0 a H H1:=(bO s1).trans b1
  obtain ⟨dx1,ho1⟩:=r1.ob
  refine ⟨aW,fun lf nf=>?_⟩
  have s2:=ad (o:=.lst []) nf
  have e2:(aI H1 lf (.lst [])) lf=some (.lst []):=ac
  have nH:H lf=none:=iV c1 ho1 nf
  have laN:lf≠a:=by
   rintro rfl
   rw [nH] at ho
   cases ho
  have llN:lf≠l:=fun z=>by
   have:=hR.tk
   rw [<-z,nH] at this
   cases this
  have I0:FI C H a l ts (k+1) me fs 0 lf (aI H1 lf (.lst [])):=⟨r1.same s2,c1.same s2,nH,laN,llN,[],e2,rfl,.nil⟩
  generalize aI H1 lf (.lst ([]:List V))=H2 at *
  refine ⟨?_,?_⟩
  ·rintro σ H3 ⟨j0,lf,hj0,rfl,I3⟩
   refine ⟨?_,?_⟩
   ·rintro σ H4 ⟨lf,rfl,I4⟩
    obtain ⟨us,e4,l4,p4⟩:=I4.ls
    rw [GV] at p4
    obtain ⟨dx4,ho4⟩:=I4.rd.ob
    refine ⟨_,rfl,a,dx4,C,f1,_,IV,2,["self","words"],_,rfl,ho4,rfl,T.cl,M1,F1,IU,B1,aW,fun p2 n2=>?_⟩
    have s4:=ad (o:=.tup [.str ")"]) n2
    refine ⟨a,l,ts,_,me,")",p2,[")"],rfl,I4.rd.same s4,he,(.inr (KP.of ac)),by simp,fun H5 r5 b5=>?_⟩
    have e5:=b5 _ _ (s4 _ _ e4) I4.la
    have k5:=(al s4).trans (b5.kt (s4 _ _ ho4))
    obtain ⟨dx5,ho5⟩:=r5.ob
    have c5:K0 a H H5:=(I4.bt.same s4).trans b5
    refine ⟨_,rfl,lf,us,rfl,.inl ⟨KW.of e5,fun p3 n3=>?_⟩⟩
    have s6:=ad (o:=.tup us) n3
    refine q p3 us _ ?_ (c5.same s6) (iV c5 ho5 n3) ac (bS (fun _ _ h=>(h.kt k5).kt (al s6)) p4)
    have:=r5.same s6
    have ee:k+1+(3*fs.length - 1)+1=k+2+(3*fs.length - 1):=by lia
    rw [ee] at this
    exact this
   ·refine ⟨fun m σ H'=>∃ j lf,m=fs.length - j/\j<=fs.length/\(0 < j\/fs.length=0)/\σ=[some (.ref a),some (.ref lf)]/\FI C H a l ts (k+1) me fs j lf H',⟨_,j0,lf,rfl,by lia,by lia,rfl,I3⟩,?_⟩
    rintro m σ H5 ⟨j,lf,rfl,hj,hj1,rfl,I5⟩
    obtain ⟨us,e5,l5,p5⟩:=I5.ls
    obtain ⟨dx5,ho5⟩:=I5.rd.ob
    have done:j=fs.length->∃ lf',[some (V.ref a),some (V.ref lf)]=[some (V.ref a),some (.ref lf')]/\FI C H a l ts (k+1) me fs fs.length lf' H5:=fun e=>⟨lf,rfl,e ▸ I5⟩
    by_cases hj0':0 < j
    ·by_cases Je:j < fs.length
     ·refine ⟨_,rfl,lf,_,rfl,.inl (KW.of e5),_,_,rfl,rfl,_,rfl,br (decide_eq_true (by rw [l5];lia)) ⟨_,_,rfl,rfl,_,rfl,br (decide_eq_true (by rw [l5];lia)) ?_⟩⟩
      obtain ⟨_,_,_,_,hcm⟩:=hf (j - 1) (by lia)
      have hcm':(tz ts)[k+1+(3*j - 1)]?=some ",":=by
       have:=hcm (by lia)
       rw [show k+1+3*(j - 1)+2=k+1+(3*j - 1) by lia] at this
       exact this
      refine ⟨_,rfl,a,dx5,C,f3,_,fd3,1,["self"],_,rfl,ho5,rfl,T.cl,M3,F3,IS,B3,a,l,ts,_,me,",",rfl,I5.rd,hcm',rfl,_,rfl,br (by decide +kernel) ?_⟩
      refine ⟨fun σ' H'=>σ'=[some (.ref a),some (.ref lf)]/\FI C H a l ts (k+1) me fs (j+1) lf H',fun σ' H' ⟨e1,e2⟩=>⟨_,by lia,j+1,lf,rfl,by lia,by lia,e1,e2⟩,?_⟩
      refine ⟨_,rfl,a,dx5,C,f2,_,fd2,1,["self"],_,rfl,ho5,rfl,T.cl,M2,F2,IS,B2,a,l,ts,_,me,",",rfl,I5.rd,hcm',fun H6 r6 b6=>?_⟩
      obtain ⟨dx6,ho6⟩:=r6.ob
      have e6:=b6 _ _ e5 I5.la
      obtain ⟨g1,g2,g3,g4,_⟩:=hf j Je
      have ek:k+1+(3*j - 1)+1=k+1+3*j:=by lia
      rw [ek] at r6
      refine ⟨_,rfl,.inl ⟨rfl,_,KW.of e6⟩,_,rfl,a,l,ts,_,me,fs[j],rfl,r6,g1,g2,g3,g4,fun p H7 r7 b7 np ep=>?_⟩
      have e7:=b7 _ _ e6 I5.la
      have ek2:k+1+3*j+2=k+1+(3*(j+1) - 1):=by lia
      rw [ek2] at r7
      exact ⟨lf,us,_,rfl,rfl,e7,by rw [l5];lia,rfl,I5.more Je ((b6.kt ho5).trans (b7.kt ho6)) e7 l5 p5 r7 (b6.trans b7) ep⟩
     ·have hje:j=fs.length:=by lia
      have he':(tz ts)[k+1+(3*j - 1)]?=some ")":=by rw [hje];exact he
      by_cases h3':j < 3
      ·refine ⟨_,rfl,lf,_,rfl,.inl (KW.of e5),_,_,rfl,rfl,_,rfl,br (decide_eq_true (by rw [l5];lia)) ⟨_,_,rfl,rfl,_,rfl,br (decide_eq_true (by rw [l5];lia)) ?_⟩⟩
       refine ⟨_,rfl,a,dx5,C,f3,_,fd3,1,["self"],_,rfl,ho5,rfl,T.cl,M3,F3,IS,B3,a,l,ts,_,me,")",rfl,I5.rd,he',rfl,_,rfl,aZ (by decide +kernel) (done hje)⟩
      ·refine ⟨_,rfl,lf,_,rfl,.inl (KW.of e5),_,_,rfl,rfl,_,rfl,br (decide_eq_true (by rw [l5];lia)) ⟨_,_,rfl,rfl,_,rfl,aZ (decide_eq_false (by rw [l5];lia)) (ck (done hje))⟩⟩
    ·have hje:j=fs.length:=by lia
     refine ⟨_,rfl,lf,_,rfl,.inl (KW.of e5),_,_,rfl,rfl,_,rfl,aZ (decide_eq_false (by rw [l5];lia)) ⟨_,rfl,ck (ck (done hje))⟩⟩
  ·obtain ⟨dx2,ho2⟩:=I0.rd.ob
   by_cases hz:0 < fs.length
   ·obtain ⟨g1,g2,g3,g4,_⟩:=hf 0 hz
    have nsc:fs[0].1≠(")":Str):=by
     intro z
     obtain ⟨_,_,_,hc⟩:=g2
     rw [z] at hc
     exact absurd (hc 41 (by decide +kernel)) (by lia)
    refine ⟨_,rfl,a,dx2,C,f3,_,fd3,1,["self"],_,rfl,ho2,rfl,T.cl,M3,F3,IS,B3,a,l,ts,_,me,fs[0].1,rfl,I0.rd,g1,rfl,_,rfl,br (by simpa using nsc) ?_⟩
    refine ⟨_,rfl,.inl ⟨rfl,_,KW.of e2⟩,_,rfl,a,l,ts,_,me,fs[0],rfl,I0.rd,g1,g2,g3,g4,fun p H7 r7 b7 np ep=>?_⟩
    have e7:=b7 _ _ e2 I0.la
    exact ⟨lf,[],_,rfl,rfl,e7,by show 0 < sizeLine;decide,1,lf,by lia,rfl,I0.more hz (b7.kt ho2) e7 rfl .nil r7 b7 ep⟩
   ·have hz0:fs.length=0:=by lia
    have he':(tz ts)[k+1+(3*0 - 1)]?=some ")":=by rw [hz0] at he;exact he
    refine ⟨_,rfl,a,dx2,C,f3,_,fd3,1,["self"],_,rfl,ho2,rfl,T.cl,M3,F3,IS,B3,a,l,ts,_,me,")",rfl,I0.rd,he',rfl,_,rfl,aZ (by simp) ?_⟩
    exact ⟨0,lf,by lia,rfl,I0⟩
structure Kn where
 name:Str
 fs:List (Str×Str)
 bd:Bd
 dd:Dd
inductive LI (H:Hp) (u:V) (x:Kn):Prop
 | mk (p tf b us:_):u=.ref p->H p=some (.tup [.str x.name,.ref tf,b])->H tf=some (.tup us)->Paired (Lf H) us x.fs->M6 H x.bd b->LI H u x
theorem LI.kt (k:K5 H H') {x:Kn} (h:LI H u x):LI H' u x:=let ⟨p,tf,b,us,a,c,d,e,f⟩:=h;⟨p,tf,b,us,a,k _ _ c,k _ _ d,bS (fun _ _ h=>h.kt k) e,f.kt k⟩
def uX (x:Kn):Nat:=4+(3*x.fs.length - 1)+(cV x.bd).length
structure rS (ts:List Str) (w k:Nat) (x:Kn):Prop where
 t0:(tz ts)[k]?=some "kind"
 t1:(tz ts)[k+1]?=some x.name
 nm:K4 x.name
 t2:(tz ts)[k+2]?=some "("
 fl:rR ts (k+3) x.fs
 t3:(tz ts)[k+3+(3*x.fs.length - 1)]?=some ")"
 le:x.fs.length<=3
 bt:At ts (k+4+(3*x.fs.length - 1)) (cV x.bd)
 bo:dq w 3 x.bd
inductive rT (C:Addr) (vs:List V) (H:Hp) (Q:VK) (Z3:XK):Prop
 | mk (a l ts k me x:_) (w:Nat):vs=[.ref a,.int w]->w<=24->Lb C H a l ts k me->rS ts w k x->(∀ u H',Lb C H' a l ts (k+uX x) me->K0 a H H'->LI H' u x->Q u H')->rT C vs H Q Z3
theorem ML:ay ["reader","width","name","fields"] ["reader","width"] (aj jt):=cH (by decide +kernel)
theorem zB (F:K7 K "read_kind" "read_kind" jt f fd) (T:qO P w K mg base C) (FS:Fn P w K mg base "read_fields" 4 ["reader"] (lP C)) (BD:Fn P w K mg base "read_body" n ["reader","width","choices"] (kh C 3)) (hn:4<=n):KU P w K mg base bY (n+1) f fd ["reader","width"] (rT C):=by
 have ZZ:=ML
 walk_at "o"
 ·obtain ⟨a,l,ts,k,me,x,w,rfl,hw,hR,hK,q⟩:=h
  have IU:KY 2 _:=hr.mono (by lia)
  have hr4:KY 4 _:=hr.mono (by lia)
  refine ⟨_,ae (aN (KZ (pv 0) (aa (aC (aa af ab)) ab)))
   (ae (ap (i:=2) ML.nd rfl (Or.inl rfl) (KR (pv 0)))
   (ae (ap (i:=3) ML.nd rfl (Or.inl rfl) (am FS hr4 rfl (aa (pv 0) ab)))
   (ah (ao (aC (aa (pv 2) (aa (pv 3) (aa (am BD hr rfl (aa (pv 0) (aa (pv 1) (aa ag ab)))) ab)))))))),?_⟩
  obtain ⟨f1,IV,M1,F1,B1⟩:=T.need
  obtain ⟨f2,fd2,M2,F2,B2⟩:=T.nname
  obtain ⟨dx,ho⟩:=hR.ob
  refine ⟨_,rfl,a,dx,C,f1,_,IV,2,["self","words"],_,rfl,ho,rfl,T.cl,M1,F1,IU,B1,aW,fun p1 n1=>?_⟩
  have s1:=ad (o:=.tup [.str "kind"]) n1
  refine ⟨a,l,ts,k,me,"kind",p1,["kind"],rfl,hR.same s1,hK.t0,(.inr (KP.of ac)),by simp,fun H1 r1 b1=>?_⟩
  obtain ⟨dx1,ho1⟩:=r1.ob
  refine ⟨_,rfl,a,dx1,C,f2,_,fd2,2,["self"],_,rfl,ho1,rfl,T.cl,M2,F2,IU,B2,a,l,ts,k+1,me,x.name,rfl,r1,hK.t1,hK.nm,fun H2 r2 b2=>?_⟩
  refine ⟨_,rfl,a,l,ts,k+2,me,x.fs,rfl,r2,hK.t2,hK.fl,hK.t3,hK.le,fun tf us H3 r3 b3 nf e3 p3=>?_⟩
  obtain ⟨dx3,ho3⟩:=r3.ob
  have ek:k+2+2+(3*x.fs.length - 1)=k+4+(3*x.fs.length - 1):=by lia
  rw [ek] at r3
  refine ⟨_,rfl,_,rfl,_,rfl,_,rfl,a,l,ts,k+4+(3*x.fs.length - 1),me,x.bd,w,0,rfl,rfl,hw,r3,hK.bt,hK.bo,fun u H4 r4 b4 hu=>⟨aW,fun pt npt=>?_⟩⟩
  have s5:=ad (o:=.tup [.str x.name,.ref tf,u]) npt
  have k4:=b4.kt ho3
  have r5:=r4.same s5
  rw [show k+4+(3*x.fs.length - 1)+(cV x.bd).length=k+uX x by unfold uX;lia] at r5
  exact q _ _ r5 ((((((bO s1).trans b1).trans b2).trans b3).trans b4).same s5) ⟨pt,tf,u,us,rfl,ac,s5 _ _ (k4 _ _ e3),bS (fun _ _ h=>(h.kt k4).kt (al s5)) p3,hu.kt (al s5)⟩
abbrev rV:Stmt:=db eA 0
inductive oz (C:Addr) (vs:List V) (H:Hp) (Q:VK) (Z3:XK):Prop
 | mk (x dx lt ts:_):vs=[.ref x,.ref lt]->H x=some (.ins C dx [])->H lt=some (.lst (ai ts))->ts.length<=1500->(∀ l H',Lb C H' x l ts 0 true->K0 x H H'->Q .non H')->oz C vs H Q Z3
theorem zC:ay ["self","tokens"] ["self","tokens"] (aj rV):=cH (by decide +kernel)
theorem zD (h:xs.length<=1500):iL xs none (some 1500)=xs:=by
 have e1:HT.sIx xs.length 0 none=0:=rfl
 have e2:HT.sIx xs.length xs.length (some 1500)=xs.length:=by
  simp only [HT.sIx]
  rw [if_neg (by decide)]
  show min 1500 xs.length=xs.length
  lia
 unfold iL
 rw [e1,e2]
 simp
theorem xa (F:K7 K "__init__" "Reader.__init__" rV f fd) (T:Rc K C) (B:Bl mg) (hm:mg "MOST_TOKENS"=some (.int 1500 t5)):KU P w K mg base bY 1 f fd ["self","tokens"] (oz C):=by
 have ZZ:=zC
 walk_at "o"
 ·obtain ⟨x,dx,lt,ts,rfl,hx,hl,h15,q⟩:=h
  refine ⟨_,ae (eu (pv 0) (ar aR (dE j9 (pv 1) j8 (da (bx (v:=.int 1500) rfl hm ⟨_,rfl⟩))) (aB (aa af ab))) rfl)
   (ae (eu (pv 0) ag rfl) (ah (eu (pv 0) (cn iK (aQ bj (by rfl) B.len Hf (aa (pv 1) ab)) (bx (v:=.int 1500) rfl hm ⟨_,rfl⟩) (av _)) rfl))),?_⟩
  have lv:(ai ts).length<=1500:=by unfold ai;rw [GC];exact h15
  have sz:(10000:Nat)<=sizeLine:=by decide
  refine ⟨_,rfl,_,rfl,lt,_,rfl,KW.of hl,fun p1 n1=>?_⟩
  rw [zD lv]
  generalize zz:aI H p1 _=H1
  have s1:KO H H1:=zz ▸ ad n1
  have e1:H1 p1=some (.lst (ai ts)):=zz ▸ ac
  clear zz
  refine ⟨aW,fun p2 n2=>?_⟩
  have s2:=ad (o:=.lst [.str ""]) n2
  have Jd:=s1.trans s2
  refine ⟨p1,p2,_,_,rfl,rfl,s2 _ _ e1,ac,by show _+1<=_;lia,fun l nl=>?_⟩
  have s3:=ad (o:=.lst (ai ts++[.str ""])) nl
  have s13:=Jd.trans s3
  have el:(aI (aI H1 p2 (.lst [.str ""])) l (.lst (ai ts++[.str ""]))) l=some (.lst (ai (ts++[("":Str)]))):=by
   rw [ac]
   unfold ai
   rw [GK]
   rfl
  have nlH:H l=none:=Jd.free nl
  generalize aI (aI H1 p2 (.lst [V.str ""])) l (.lst (ai ts++[V.str ""]))=H3 at *
  have lx:l≠x:=by
   rintro rfl
   rw [nlH] at hx
   cases hx
  have ltx:lt≠x:=by
   rintro rfl
   rw [hl] at hx
   cases hx
  refine ⟨_,rfl,x,C,dx,_,rfl,s13 _ _ hx,T.cl,T.n1,(by show 0 < 1000;decide),?_⟩
  refine ⟨_,rfl,x,C,dx,_,rfl,ac,T.cl,T.n2,(by show 1 < 1000;decide),?_⟩
  have hl3:(aI (aI H3 x (.ins C dx (aP "tokens" (.ref l) []))) x (.ins C dx (aP "spot" (.int 0) (aP "tokens" (.ref l) [])))) lt=some (.lst (ai ts)):=by rw [aw ltx,aw ltx];exact s13 _ _ hl
  refine ⟨_,rfl,lt,_,rfl,.inl (KW.of hl3),_,_,rfl,rfl,?_⟩
  refine ⟨_,rfl,x,C,dx,_,rfl,ac,T.cl,T.n3,(by show 2 < 1000;decide),?_⟩
  have hd:decide (((ai ts).length:Int)<=1500)=true:=decide_eq_true (by lia)
  have eF:(aP "may_end" (.bl (decide (((ai ts).length:Int)<=1500))) (aP "spot" (.int 0) (aP "tokens" (.ref l) [])))=yH l 0 true:=by rw [hd];rfl
  refine q l _ ⟨⟨dx,?_⟩,?_,h15⟩ ?_
  ·rw [ac]
   exact congrArg some (congrArg (HO.ins C dx) eF)
  ·rw [aw lx,aw lx,aw lx]
   exact el
  ·intro b o e nb
   rw [aw nb,aw nb,aw nb]
   exact s13 _ _ e
structure Fm where
 width:Nat
 cells:Nat
 depth:Nat
 places:List Str
 marks:List Str
 gates:List Str
 kinds:List Kn
def ki (ts:List Str) (w:Nat):Nat->List Kn->Prop
 | k,[]=>k=ts.length
 | k,x::r=>rS ts w k x/\ki ts w (k+uX x) r
structure oA (ts:List Str) (D:Fm):Prop where
 a0:(tz ts)[0]?=some ("word":Str)
 a1:(tz ts)[1]?=some (toString (D.width:Int):Str)
 a2:(tz ts)[2]?=some (";":Str)
 a3:(tz ts)[3]?=some ("cells":Str)
 a4:(tz ts)[4]?=some (toString (D.cells:Int):Str)
 a5:(tz ts)[5]?=some (";":Str)
 a6:(tz ts)[6]?=some ("depth":Str)
 a7:(tz ts)[7]?=some (toString (D.depth:Int):Str)
 a8:(tz ts)[8]?=some (";":Str)
 a9:(tz ts)[9]?=some ("places":Str)
 pn:qh ts 10 D.places
 pe:(tz ts)[10+D.places.length]?=some (";":Str)
 m9:(tz ts)[11+D.places.length]?=some ("marks":Str)
 mn:qh ts (12+D.places.length) D.marks
 me:(tz ts)[12+D.places.length+D.marks.length]?=some (";":Str)
 g9:(tz ts)[13+D.places.length+D.marks.length]?=some ("gate":Str)
 gn:qh ts (14+D.places.length+D.marks.length) D.gates
 ge:(tz ts)[14+D.places.length+D.marks.length+D.gates.length]?=some (";":Str)
 ks:ki ts D.width (15+D.places.length+D.marks.length+D.gates.length) D.kinds
 bw:4<=D.width/\D.width<=24
 bc:4<=D.cells/\D.cells<=64
 bd:D.depth<=8
 bp:1<=D.places.length/\D.places.length<=4
 bm:D.marks.length<=3
 bg:D.gates.length<=1
 bk:1<=D.kinds.length/\D.kinds.length<=8
inductive xb (H:Hp) (u:V) (D:Fm):Prop
 | mk (p pp pm pg pk us:_):u=.ref p->H p=some (.tup [.int D.width,.int D.cells,.int D.depth,.ref pp,.ref pm,.ref pg,.ref pk])->H pp=some (.tup (ai D.places))->H pm=some (.tup (ai D.marks))->H pg=some (.tup (ai D.gates))->H pk=some (.tup us)->Paired (LI H) us D.kinds->xb H u D
inductive rW (vs:List V) (H:Hp) (Q:VK) (Z3:XK):Prop
 | mk (lt ts D:_):vs=[.ref lt]->H lt=some (.lst (ai ts))->ts.length<=1500->oA ts D->(∀ u H',KO H H'->xb H' u D->Q u H')->rW vs H Q Z3
theorem fg {H Hc H':Hp} {a:Addr} (na:H a=none) (sc:KO H Hc) (b:K0 a Hc H'):KO H H':=fun c o e=>b c o (sc c o e) (aK e na)
structure KI (C:Addr) (Hc:Hp) (a l:Addr) (ts:List Str) (all done rest:List Kn) (lk pp pm pg:Addr) (D:Fm) (H':Hp):Prop where
 sp:all=done++rest
 rd:∃ k,Lb C H' a l ts k true/\ki ts D.width k rest
 bt:K0 a Hc H'
 nk:Hc lk=none
 la:lk≠a
 ll:lk≠l
 ep:H' pp=some (.tup (ai D.places))
 em:H' pm=some (.tup (ai D.marks))
 eg:H' pg=some (.tup (ai D.gates))
 ls:∃ us,H' lk=some (.lst us)/\us.length=done.length/\Paired (LI H') us done
theorem Lp:ay ["tokens","reader","width","cells","depth","places","marks","gates","kinds"] ["tokens"] (aj js):=cH (by decide +kernel)
variable {fdi:FuncData}
theorem zE {n:Nat} (F:K7 K "read_form" "read_form" js f fd) (T:qO P w K mg base C) (Z:rP K mg aS aE aF t1 t2 t3 t4) (B:Bl mg) (MK:Mk K C fi) (mgR:mg "Reader"=some (.ref C)) (IN:KU P w K mg base bY 1 fi fdi ["self","tokens"] (oz C)) (bI:Ld K fdi ["self","tokens"] [])
  (BO:Fn P w K mg base "read_bounded" 4 ["reader","word","low","high"] (jF C)) (NA:Fn P w K mg base "read_names" 3 ["reader","word","least","most"] (oj C)) (KD:Fn P w K mg base "read_kind" n ["reader","width"] (rT C)) (hn:6<=n):KU P w K mg base bY (n+1) f fd ["tokens"] rW:=by
 have ZZ:=Lp
 walk_at "o"
 ·obtain ⟨lt,ts,D,rfl,hl,h15,hF,q⟩:=h
  have IS:KY 1 _:=hr.mono (by lia)
  have IU:KY 2 _:=hr.mono (by lia)
  have hr3:KY 3 _:=hr.mono (by lia)
  have hr4:KY 4 _:=hr.mono (by lia)
  have sz:(10000:Nat)<=sizeLine:=by decide
  refine ⟨_,ae (ap (i:=1) Lp.nd rfl (Or.inl rfl) (sT MK IN IU rfl mgR bI .nil kO (aa (pv 0) ab)))
   (ae (ap (i:=2) Lp.nd rfl (Or.inl rfl) (am BO hr4 rfl (aa (pv 1) (aa af (aa ag (aa ag ab))))))
   (ae (ap (i:=3) Lp.nd rfl (Or.inl rfl) (am BO hr4 rfl (aa (pv 1) (aa af (aa ag (aa ag ab))))))
   (ae (ap (i:=4) Lp.nd rfl (Or.inl rfl) (am BO hr4 rfl (aa (pv 1) (aa af (aa ag (aa ag ab))))))
   (ae (ap (i:=5) Lp.nd rfl (Or.inl rfl) (am NA hr3 rfl (aa (pv 1) (aa af (aa ag (aa ag ab))))))
   (ae (ap (i:=6) Lp.nd rfl (Or.inl rfl) (am NA hr3 rfl (aa (pv 1) (aa af (aa ag (aa ag ab))))))
   (ae (ap (i:=7) Lp.nd rfl (Or.inl rfl) (am NA hr3 rfl (aa (pv 1) (aa af (aa ag (aa ag ab))))))
   (ae (ap (i:=8) Lp.nd rfl (Or.inl rfl) (aB (aa (am KD hr rfl (aa (pv 1) (aa (pv 2) ab))) ab)))
   (ae (fb PassesOwn.never (PW.pt (bZ (ak dD (aQ bj (by rfl) B.len Hf (aa (pv 8) ab)) (bx (v:=.int 8) rfl Z.mkn ⟨_,rfl⟩) (av _)) (bJ (ak be (KR (pv 1)) af (av _)))))
    (ah (aN (b9 GS GR GQ bq (pv 8) (aa (am KD hr rfl (aa (pv 1) (aa (pv 2) ab))) ab)))))
   (ae (aN (KR (pv 1)))
   (ah (ao (aC (aa (pv 2) (aa (pv 3) (aa (pv 4) (aa (pv 5) (aa (pv 6) (aa (pv 7) (aa (aU bX (by rfl) B.tuple cx (aa (pv 8) ab)) ab))))))))))))))))))),?_⟩
  obtain ⟨f3,fd3,M3,F3,B3⟩:=T.look
  obtain ⟨f4,fd4,M4,F4,B4⟩:=T.nend
  refine ⟨_,rfl,fun a dx na nd ne=>⟨a,dx,lt,ts,rfl,ac,?_,h15,fun l H1 r1 b1=>⟨rfl,?_⟩⟩⟩
  ·exact (bK na (ad nd)) _ _ hl
  have s1:KO H H1:=fg na (bK na (ad nd)) b1
  have naH:=na
  clear b1
  refine ⟨_,rfl,a,l,ts,0,true,"word",D.width,4,24,rfl,r1,hF.a0,hF.a1,hF.a2,by have:=hF.bw;lia,hF.bw.1,hF.bw.2,fun H2 r2 b2=>?_⟩
  refine ⟨_,rfl,a,l,ts,3,true,"cells",D.cells,4,64,rfl,r2,hF.a3,hF.a4,hF.a5,by have:=hF.bc;lia,hF.bc.1,hF.bc.2,fun H3 r3 b3=>?_⟩
  refine ⟨_,rfl,a,l,ts,6,true,"depth",D.depth,0,8,rfl,r3,hF.a6,hF.a7,hF.a8,by have:=hF.bd;lia,Hj _,hF.bd,fun H4 r4 b4=>?_⟩
  have b14:=(b2.trans b3).trans b4
  refine ⟨_,rfl,a,l,ts,9,true,"places",D.places,1,4,rfl,r4,hF.a9,hF.pn,hF.pe,hF.bp.1,hF.bp.2,by decide,fun pp H5 r5 b5 np5 e5=>?_⟩
  refine ⟨_,rfl,a,l,ts,9+2+D.places.length,true,"marks",D.marks,0,3,rfl,r5,?_,?_,?_,Hj _,hF.bm,by decide,fun pm H6 r6 b6 np6 e6=>?_⟩
  ·exact hF.m9
  ·rw [show 9+2+D.places.length+1=12+D.places.length by lia];exact hF.mn
  ·rw [show 9+2+D.places.length+1+D.marks.length=12+D.places.length+D.marks.length by lia];exact hF.me
  obtain ⟨dx5,ho5⟩:=r5.ob
  have e5':=(b6.kt ho5) _ _ e5
  refine ⟨_,rfl,a,l,ts,9+2+D.places.length+2+D.marks.length,true,"gate",D.gates,0,1,rfl,r6,?_,?_,?_,Hj _,hF.bg,by decide,fun pg H7 r7 b7 np7 e7=>?_⟩
  ·rw [show 9+2+D.places.length+2+D.marks.length=13+D.places.length+D.marks.length by lia];exact hF.g9
  ·rw [show 9+2+D.places.length+2+D.marks.length+1=14+D.places.length+D.marks.length by lia];exact hF.gn
  ·rw [show 9+2+D.places.length+2+D.marks.length+1+D.gates.length=14+D.places.length+D.marks.length+D.gates.length by lia];exact hF.ge
  obtain ⟨dx6,ho6⟩:=r6.ob
  have e5'':=(b7.kt ho6) _ _ e5'
  have e6':=(b7.kt ho6) _ _ e6
  rw [show 9+2+D.places.length+2+D.marks.length+2+D.gates.length=15+D.places.length+D.marks.length+D.gates.length by lia] at r7
  have b17:K0 a H1 H7:=((b14.trans b5).trans b6).trans b7
  have hks:=hF.ks
  have hbk:=hF.bk
  generalize 15+D.places.length+D.marks.length+D.gates.length=k0 at *
  obtain ⟨x0,rest0,hk0⟩:∃ x r,D.kinds=x::r:=by
   cases hh:D.kinds with
   | nil=>rw [hh] at hbk;simp at hbk
   | cons x r=>exact ⟨x,r,rfl⟩
  rw [hk0] at hks hbk
  obtain ⟨hK0,hks'⟩:=hks
  refine ⟨_,rfl,_,rfl,a,l,ts,k0,true,x0,D.width,rfl,hF.bw.2,r7,hK0,fun u0 H8 r8 b8 hu0=>?_⟩
  obtain ⟨dx7,ho7⟩:=r7.ob
  have kk8:=b8.kt ho7
  refine ⟨aW,fun lk nk=>?_⟩
  have s9:=ad (o:=.lst [u0]) nk
  have b19:K0 a H1 (aI H8 lk (.lst [u0])):=(b17.trans b8).same s9
  obtain ⟨dx8,ho8⟩:=r8.ob
  obtain ⟨dx1,ho1⟩:=r1.ob
  have nkH1:H1 lk=none:=iV (b17.trans b8) ho8 nk
  have lka:lk≠a:=by
   rintro rfl
   rw [ho8] at nk
   cases nk
  have lkl:lk≠l:=fun z=>by
   have:=r8.tk
   rw [<-z,nk] at this
   cases this
  have I0:KI C H1 a l ts D.kinds [x0] rest0 lk pp pm pg D (aI H8 lk (.lst [u0])):=⟨hk0,⟨_,r8.same s9,hks'⟩,b19,nkH1,lka,lkl,s9 _ _ (kk8 _ _ e5''),s9 _ _ (kk8 _ _ e6'),s9 _ _ (kk8 _ _ e7),[u0],ac,rfl,.cons (hu0.kt (al s9)) .nil⟩
  generalize aI H8 lk (.lst [u0])=H9 at *
  refine ⟨fun m σ H'=>∃ done rest,m=rest.length/\σ=[some (.ref lt),some (.ref a),some (.int D.width),some (.int D.cells),some (.int D.depth),some (.ref pp),some (.ref pm),some (.ref pg),some (.ref lk)]/\KI C H1 a l ts D.kinds done rest lk pp pm pg D H',⟨_,[x0],rest0,rfl,rfl,I0⟩,?_⟩
  rintro m σ Ha ⟨done,rest,rfl,rfl,I⟩
  obtain ⟨us,ek,lu,pu⟩:=I.ls
  obtain ⟨k,rk,hkr⟩:=I.rd
  obtain ⟨dxa,hoa⟩:=rk.ob
  have hall:done.length+rest.length<=8:=by
   have:=congrArg List.length I.sp
   rw [Gy,hk0] at this
   simp only [GB] at this hbk
   lia
  cases rest with
  | cons x r=>
   obtain ⟨hKx,hkr'⟩:=hkr
   have Je:done.length < 8:=by simp only [GB] at hall;lia
   refine ⟨_,rfl,lk,_,rfl,.inl (KW.of ek),_,_,rfl,rfl,_,rfl,br (decide_eq_true (by rw [lu];lia)) ?_⟩
   refine ⟨_,rfl,a,dxa,C,f3,_,fd3,1,["self"],_,rfl,hoa,rfl,T.cl,M3,F3,IS,B3,a,l,ts,k,true,"kind",rfl,rk,hKx.t0,rfl,_,rfl,br (by decide +kernel) ?_⟩
   refine ⟨fun σ' H'=>σ'=[some (.ref lt),some (.ref a),some (.int D.width),some (.int D.cells),some (.int D.depth),some (.ref pp),some (.ref pm),some (.ref pg),some (.ref lk)]/\KI C H1 a l ts D.kinds (done++[x]) r lk pp pm pg D H',fun σ' H' ⟨e1,e2⟩=>⟨r.length,by simp,done++[x],r,rfl,e1,e2⟩,?_⟩
   refine ⟨_,rfl,.inl ⟨rfl,_,KW.of ek⟩,_,rfl,_,rfl,a,l,ts,k,true,x,D.width,rfl,hF.bw.2,rk,hKx,fun u Hb rb bb hu=>?_⟩
   have kb:=bb.kt hoa
   have eb:=bb _ _ ek I.la
   have k2:=tE (ys:=us++[u]) eb
   refine ⟨lk,us,_,rfl,rfl,eb,by rw [lu];lia,rfl,?_⟩
   refine ⟨by rw [I.sp,G1];rfl,⟨_,⟨?_,?_,rb.le⟩,hkr'⟩,?_,I.nk,I.la,I.ll,k2 _ _ (kb _ _ I.ep),k2 _ _ (kb _ _ I.em),k2 _ _ (kb _ _ I.eg),us++[u],ac,by simp [lu],gq (hu.kt k2) (bS (fun _ _ h=>(h.kt kb).kt k2) pu)⟩
   ·obtain ⟨dxb,hob⟩:=rb.ob
    exact ⟨dxb,by rw [aw I.la.symm];exact hob⟩
   ·rw [aw I.ll.symm]
    exact rb.tk
   ·intro b o e nb
    by_cases h:b=lk
    ·rw [h,I.nk] at e
     cases e
    ·rw [aw h]
     exact bb _ _ (I.bt _ _ e nb) nb
  | nil=>
   have hkE:k=ts.length:=hkr
   have hdone:D.kinds=done:=by rw [I.sp,Hw]
   have lend:(tz ts)[k]?=some "":=by rw [hkE];simp [tz]
   have nke:("":Str)≠("kind":Str):=by decide +kernel
   have sH:KO H Ha:=fg naH s1 I.bt
   by_cases h8:done.length < 8
   ·refine ⟨_,rfl,lk,_,rfl,.inl (KW.of ek),_,_,rfl,rfl,_,rfl,br (decide_eq_true (by rw [lu];lia)) ?_⟩
    refine ⟨_,rfl,a,dxa,C,f3,_,fd3,1,["self"],_,rfl,hoa,rfl,T.cl,M3,F3,IS,B3,a,l,ts,k,true,"",rfl,rk,lend,rfl,_,rfl,aZ (by decide +kernel) ?_⟩
    refine ⟨_,rfl,a,dxa,C,f4,_,fd4,1,["self"],_,rfl,hoa,rfl,T.cl,M4,F4,IS,B4,a,l,ts,k,rfl,rk,hkE,?_⟩
    refine ⟨_,rfl,_,rfl,_,rfl,_,rfl,_,rfl,_,rfl,_,rfl,lk,us,rfl,.inl ⟨KW.of ek,fun pk npk=>⟨aW,fun pt npt=>?_⟩⟩⟩
    have s10:=ad (o:=.tup us) npk
    have s11:=ad (o:=.tup [.int D.width,.int D.cells,.int D.depth,.ref pp,.ref pm,.ref pg,.ref pk]) npt
    have Jd:=s10.trans s11
    exact q _ _ (sH.trans Jd) ⟨pt,pp,pm,pg,pk,us,rfl,ac,Jd _ _ I.ep,Jd _ _ I.em,Jd _ _ I.eg,s11 _ _ ac,by rw [hdone];exact bS (fun _ _ h=>h.kt (al Jd)) pu⟩
   ·refine ⟨_,rfl,lk,_,rfl,.inl (KW.of ek),_,_,rfl,rfl,_,rfl,aZ (decide_eq_false (by rw [lu];lia)) (ck ?_)⟩
    refine ⟨_,rfl,a,dxa,C,f4,_,fd4,1,["self"],_,rfl,hoa,rfl,T.cl,M4,F4,IS,B4,a,l,ts,k,rfl,rk,hkE,?_⟩
    refine ⟨_,rfl,_,rfl,_,rfl,_,rfl,_,rfl,_,rfl,_,rfl,lk,us,rfl,.inl ⟨KW.of ek,fun pk npk=>⟨aW,fun pt npt=>?_⟩⟩⟩
    have s10:=ad (o:=.tup us) npk
    have s11:=ad (o:=.tup [.int D.width,.int D.cells,.int D.depth,.ref pp,.ref pm,.ref pg,.ref pk]) npt
    have Jd:=s10.trans s11
    exact q _ _ (sH.trans Jd) ⟨pt,pp,pm,pg,pk,us,rfl,ac,Jd _ _ I.ep,Jd _ _ I.em,Jd _ _ I.eg,s11 _ _ ac,by rw [hdone];exact bS (fun _ _ h=>h.kt (al Jd)) pu⟩
abbrev Ne:=Str×Str×Bool×Nat
def eC (b:Bool):Str:=if b then "by" else "is"
def NO (H:Hp) (kv:cE×V) (x:Ne):Prop:=kv.1=Sum.inr x.1/\∃ p q,kv.2=.ref p/\H p=some (.tup [.str x.2.1,.ref q])/\H q=some (.tup [.str (eC x.2.2.1),.int (x.2.2.2:Nat)])
inductive LX (H:Hp) (d:Addr) (ks:List Ne):Prop
 | mk (kvs:_):H d=some (.dK kvs)->Paired (NO H) kvs ks->LX H d ks
theorem NO.kt (k:K5 H H') {kv:cE×V} {x:Ne} (h:NO H kv x):NO H' kv x:=let ⟨a,p,q,b,c,d⟩:=h;⟨a,p,q,b,k _ _ c,k _ _ d⟩
theorem AU {l:Addr} {xs ys:List (cE×V)} (e:H l=some (.dK xs)):K5 H (aI H l (.dK ys)):=fun b us h=>by
 rw [aw]
 ·exact h
 ·rintro rfl
  rw [e] at h
  cases h
theorem xc:∀ {kvs:List (cE×V)} {ks:List Ne},Paired (NO H) kvs ks->∀ {z:Str},z∉ks.map (·.1)->bh kvs (Sum.inr z)=none
 | _,_,.nil,_,_=>pX
 | _,_,.cons (a:=kv) (b:=x) h t,z,hz=>by
  rw [ci]
  ·exact xc t (fun m=>hz (GD _ m))
  ·intro e
   rw [h.1] at e
   have:=Sum.inr.inj e
   exact hz (by rw [GO,this];exact Gz)
theorem tI:∀ {kvs:List (cE×V)} {ks:List Ne},Paired (NO H) kvs ks->∀ {z s:Str} {b:Bool} {n:Nat},(z,s,b,n)∈ks->(ks.map (·.1)).Nodup->∃ p q,bh kvs (Sum.inr z)=some (.ref p)/\H p=some (.tup [.str s,.ref q])/\H q=some (.tup [.str (eC b),.int (n:Nat)])
 | _,_,.nil,_,_,_,_,m,_=>by cases m
 | _,_,.cons (a:=kv) (b:=x) h t,z,s,b,n,m,nd=>by
  rw [GO,Iq] at nd
  rcases GF.mp m with e|m'
  ·obtain ⟨e1,p,q,e2,e3,e4⟩:=h
   subst e
   refine ⟨p,q,?_,e3,e4⟩
   rw [cF e1,e2]
  ·have Jb:¬ kv.1=Sum.inr z:=by
    intro e
    rw [h.1] at e
    have:=Sum.inr.inj e
    exact nd.1 (by rw [this];exact G0.mpr ⟨(z,s,b,n),m',rfl⟩)
   rw [ci Jb]
   exact tI t m' nd.2
inductive gN (vs:List V) (H:Hp) (Q:VK) (Z3:XK):Prop
 | mk (d ks nm st q:_) (b:Bool) (n:Nat):vs=[.ref d,.str nm,.str st,.ref q]->LX H d ks->H q=some (.tup [.str (eC b),.int (n:Nat)])->nm∉ks.map (·.1)->ks.length<=20->(∀ H',LX H' d (ks++[(nm,st,b,n)])->K0 d H H'->Q .non H')->gN vs H Q Z3
inductive cO (K:ZF) (vs:List V) (H:Hp) (Q:VK) (Z3:XK):Prop
 | mk (d ks nm st p xs:_) (b:Bool) (n:Nat):vs=[.ref d,.str nm,.ref p]->LX H d ks->(nm,st,b,n)∈ks->(ks.map (·.1)).Nodup->(KW K H p (ai xs)\/KP K H p (ai xs))->st∈xs->(∀ t q H',KO H H'->H' t=some (.tup [.str st,.ref q])->H' q=some (.tup [.str (eC b),.int (n:Nat)])->Q (.ref t) H')->cO K vs H Q Z3
theorem uY:ay ["names","name","sort","sel"] ["names","name","sort","sel"] (aj lC):=cH (by decide +kernel)
theorem rX (F:K7 K "add_name" "add_name" lC f fd):KU P w K mg base bY 1 f fd ["names","name","sort","sel"] gN:=by
 have ZZ:=uY
 walk_at "o"
 ·obtain ⟨d,ks,nm,st,sq,b,n,rfl,hN,hq,hm,hk,q⟩:=h
  have hu:=dP hr
  refine ⟨_,ae (aM (qP (wt hu (pv 1) (pv 0))) (ah cN) aH) (ah (dQ hu (pv 0) (pv 1) (aC (aa (pv 2) (aa (pv 3) ab))) rfl)),?_⟩
  obtain ⟨kvs,hd,hp⟩:=hN
  have hno:=xc hp hm
  have lk:=hp.length
  have szz:(1000:Nat)<=sizeLine:=by decide
  have g:Li H d (.str nm) none:=by
   have:=Li.k (k:=Sum.inr nm) hd
   rw [hno] at this
   exact this
  refine ⟨_,rfl,_,rfl,d,_,rfl,g,_,rfl,ck ?_⟩
  refine ⟨_,rfl,_,rfl,aW,fun p np=>?_⟩
  have s1:=ad (o:=.tup [.str st,.ref sq]) np
  have hd1:=s1 _ _ hd
  have hq1:=s1 _ _ hq
  have ep:(aI H p (.tup [.str st,.ref sq])) p=some (.tup [.str st,.ref sq]):=ac
  generalize aI H p (.tup [V.str st,.ref sq])=H1 at *
  refine ⟨_,rfl,_,rfl,d,_,rfl,LA.k (k:=Sum.inr nm) hd1 (by lia),?_⟩
  rw [pZ _ hno]
  have k1:=AU (ys:=kvs++[(Sum.inr nm,V.ref p)]) hd1
  refine q _ ⟨_,ac,gq ⟨rfl,p,sq,rfl,k1 _ _ ep,k1 _ _ hq1⟩ (bS (fun _ _ h=>(h.kt (al s1)).kt k1) hp)⟩ (fun b o e nb=>?_)
  rw [aw nb]
  exact s1 _ _ e
theorem Lv:ay ["names","name","sorts","sort","sel"] ["names","name","sorts"] (aj ik):=cH (by decide +kernel)
theorem oB (F:K7 K "need_known" "need_known" ik f fd):KU P w K mg base bY 1 f fd ["names","name","sorts"] (cO K):=by
 have ZZ:=Lv
 walk_at "o"
 ·obtain ⟨d,ks,nm,st,p,xs,b,n,rfl,hN,hm,hnd,hq,hs,q⟩:=h
  have hu:=dP hr
  refine ⟨_,ae (aM (qP (uO hu (pv 1) (pv 0))) (ah cN) aH)
   (ae (fT (bD hu (pv 0) (pv 1) (fun _ _=>rfl)) (cB rfl (aA (az (i:=3) Lv.nd rfl (Or.inl rfl)) (aA (az (i:=4) Lv.nd rfl (Or.inl rfl)) bi))))
   (ae (aM (ak fw (pv 3) (pv 2) rfl) (ah cN) aH)
   (ah (ao (aC (aa (pv 3) (aa (pv 4) ab))))))),?_⟩
  obtain ⟨kvs,hd,hp⟩:=hN
  obtain ⟨p0,sq,hv,e0,e1⟩:=tI hp hm hnd
  have g:Li H d (.str nm) (some (.ref p0)):=by
   have:=Li.k (k:=Sum.inr nm) hd
   rw [hv] at this
   exact this
  refine ⟨_,rfl,_,rfl,d,_,rfl,g,_,rfl,ck ?_⟩
  refine ⟨_,rfl,_,rfl,d,_,rfl,g,p0,_,rfl,KP.of e0,rfl,_,_,rfl,_,_,rfl,rfl,?_⟩
  refine ⟨_,rfl,_,rfl,p,ai xs,rfl,hq,rfl,dZ _,_,rfl,aZ ?_ ?_⟩
  ·show (!iH (.str st) (ai xs))=false
   rw [c7,Hh.mpr hs]
   rfl
  ·refine ⟨_,rfl,_,rfl,aW,fun t nt=>?_⟩
   exact q t sq _ (ad nt) ac (ad nt _ _ e1)
theorem rY:bootBuiltins "dict"=some (.type "dict"):=by decide +kernel
structure zF (mg:Str->Option Value):Prop where
 dict:mg "dict"=none
 enumerate:mg "enumerate"=none
def fN (fs:List (Str×Str)):List Ne:=fs.mapIdx fun j x=>(x.1,x.2,true,j)
theorem qm (fs:List (Str×Str)) (i:Nat):(fN fs)[i]?=fs[i]?.map fun x=>(x.1,x.2,true,i):=by unfold fN;rw [List.getElem?_mapIdx]
theorem lQ (fs:List (Str×Str)):(fN fs).length=fs.length:=by unfold fN;simp
inductive xf (vs:List V) (H:Hp) (Q:VK) (Z3:XK):Prop
 | mk (d tf us ks fs:_):vs=[.ref d,.ref tf]->LX H d ks->H tf=some (.tup us)->Paired (Lf H) us fs->((ks++fN fs).map (·.1)).Nodup->ks.length+fs.length<=20->(∀ d' H',KO H H'->H d'=none->LX H' d' (ks++fN fs)->Q (.ref d') H')->xf vs H Q Z3
theorem MC:ay ["names","fields","within","j","name","sort"] ["names","fields"] (aj il):=cH (by decide +kernel)
theorem Cf (F:K7 K "names_with_fields" "names_with_fields" il f fd) (B:zF mg) (AN:Fn P w K mg base "add_name" 1 ["names","name","sort","sel"] gN):KU P w K mg base bY 2 f fd ["names","fields"] xf:=by
 have ZZ:=MC
 walk_at "o"
 ·obtain ⟨d,tf,us,ks,fs,rfl,⟨kvs,hd,hp⟩,ht,hf,hnd,h20,q⟩:=h
  refine ⟨_,ae (ap (i:=2) MC.nd rfl (Or.inl rfl) (aU MO (by rfl) B.dict rY (aa (pv 0) ab)))
   (ae (cr PassesOwn.never rfl (fe rfl B.enumerate (aa (pv 1) ab)) (cB rfl (aA (az (i:=3) MC.nd rfl (Or.inl rfl)) (aA (cB rfl (aA (az (i:=4) MC.nd rfl (Or.inl rfl)) (aA (az (i:=5) MC.nd rfl (Or.inl rfl)) bi))) bi)))
    (ah (aN (am AN hr rfl (aa (pv 2) (aa (pv 4) (aa (pv 5) (aa (aC (aa af (aa (pv 3) ab))) ab))))))))
   (ah (ao (pv 2)))),?_⟩
  refine ⟨_,rfl,d,kvs,rfl,hd,fun d' nd'=>?_⟩
  generalize zz:aI H d' _=H1
  have s1:KO H H1:=zz ▸ ad nd'
  have e1:H1 d'=some (.dK kvs):=zz ▸ ac
  clear zz
  refine ⟨_,rfl,tf,rfl,⟨_,KP.of (s1 _ _ ht)⟩,?_⟩
  have lf:=hf.length
  refine dY (K:=K) (l:=tf) (xs:=us) (fun i σ H'=>∃ v3 v4 v5:Option V,σ=[some (.ref d),some (.ref tf),some (.ref d'),v3,v4,v5]/\KO H H'/\LX H' d' (ks++(fN fs).take i)) ⟨_,_,_,rfl,s1,kvs,e1,by simpa using bS (fun _ _ h=>h.kt (al s1)) hp⟩ (fun i σ H' _ ⟨_,_,_,_,s',_⟩=>KP.of (s' _ _ ht)) ?_ ?_
  ·rintro i x σ H2 T1 hx nT ⟨v3,v4,v5,rfl,s2,n2⟩
   obtain ⟨y,hy,pf,rfl,hpf⟩:=gr hf hx
   have Je:i < fs.length:=(GA.mp hy).1
   have s3:=ad (o:=.tup [.int (i:Int),.ref pf]) nT
   have s23:=s2.trans s3
   refine ⟨T1,_,rfl,KP.of ac,rfl,_,_,rfl,_,_,rfl,⟨pf,_,rfl,KP.of (s23 _ _ hpf),rfl,_,_,rfl,_,_,rfl,rfl,rfl,?_⟩⟩
   refine ⟨_,rfl,_,rfl,_,rfl,_,rfl,aW,fun t nt=>?_⟩
   have s4:=ad (o:=.tup [.str "by",.int (i:Int)]) nt
   have s24:=s23.trans s4
   have n4:LX (aI (aI H2 T1 (.tup [.int (i:Int),.ref pf])) t (.tup [.str "by",.int (i:Int)])) d' (ks++(fN fs).take i):=let ⟨kv2,a,b⟩:=n2;⟨kv2,(s3.trans s4) _ _ a,bS (fun _ _ h=>h.kt (al (s3.trans s4))) b⟩
   have hy':(fN fs)[i]?=some (y.1,y.2,true,i):=by rw [qm,hy];rfl
   have hlt':i < (fN fs).length:=by rw [lQ];exact Je
   have etk:(fN fs).take (i+1)=(fN fs).take i++[(y.1,y.2,true,i)]:=by rw [GX,hy'];rfl
   refine ⟨d',_,y.1,y.2,t,true,i,rfl,n4,ac,?_,?_,fun H5 n5 b5=>⟨_,_,_,rfl,fg nd' s24 b5,?_⟩⟩
   ·intro hm
    have e5:ks++fN fs=(ks++(fN fs).take i)++((y.1,y.2,true,i)::(fN fs).drop (i+1)):=by
     rw [G1]
     congr 1
     have:=(Hx i (fN fs)).symm
     rw [Hr hlt'] at this
     rw [(GA.mp hy').2] at this
     exact this
    rw [e5,GK,GO] at hnd
    exact (ID.mp hnd).2.2 _ hm _ Gz rfl
   ·rw [Gy,GG,lQ]
    lia
   ·rw [etk,<-G1]
    exact n5
  ·rintro σ H2 ⟨v3,v4,v5,rfl,s2,n2⟩
   rw [lf,<-lQ,GV] at n2
   exact ⟨_,rfl,q d' H2 s2 nd' n2⟩
inductive MG (H:Hp) (b:Bool) (n:Nat) (v:V):Prop
 | mk (q:_):v=.ref q->H q=some (.tup [.str (eC b),.int (n:Nat)])->MG H b n v
theorem MG.kt (k:K5 H H') {b:Bool} (h:MG H b n v):MG H' b n v:=let ⟨p,a,c⟩:=h;⟨p,a,k _ _ c⟩
def LY (H:Hp):Ed->V->Prop
 | .num n,v=>∃ p,v=.ref p/\H p=some (.tup [.str "number",.int (n:Nat)])
 | .fld j,v=>∃ p,v=.ref p/\H p=some (.tup [.str "field",.int (j:Nat)])
 | .pl b n,v=>∃ p u,v=.ref p/\H p=some (.tup [.str "place",u])/\MG H b n u
 | .mk b n,v=>∃ p u,v=.ref p/\H p=some (.tup [.str "mark",u])/\MG H b n u
 | .cell e,v=>∃ p u,v=.ref p/\H p=some (.tup [.str "cell",u])/\LY H e u
 | .two o x y,v=>∃ p u t,v=.ref p/\H p=some (.tup [.str o,u,t])/\LY H x u/\LY H y t
theorem LY.kt (k:K5 H H'):∀ {e:Ed} {v:V},LY H e v->LY H' e v
 | .num _,_,⟨p,a,b⟩=>⟨p,a,k _ _ b⟩
 | .fld _,_,⟨p,a,b⟩=>⟨p,a,k _ _ b⟩
 | .pl _ _,_,⟨p,u,a,b,c⟩=>⟨p,u,a,k _ _ b,c.kt k⟩
 | .mk _ _,_,⟨p,u,a,b,c⟩=>⟨p,u,a,k _ _ b,c.kt k⟩
 | .cell _,_,⟨p,u,a,b,c⟩=>⟨p,u,a,k _ _ b,LY.kt k c⟩
 | .two _ _ _,_,⟨p,u,t,a,b,c,d⟩=>⟨p,u,t,a,k _ _ b,LY.kt k c,LY.kt k d⟩
inductive qo (ks:List Ne):Ex->Ed->Prop
 | num (n:Nat):qo ks (.num n) (.num n)
 | fld {z:Str} {b:Bool} {n:Nat}:(z,("number":Str),b,n)∈ks->qo ks (.nm z) (.fld n)
 | pl {z:Str} {b:Bool} {n:Nat}:(z,("place":Str),b,n)∈ks->qo ks (.nm z) (.pl b n)
 | mk {z:Str} {b:Bool} {n:Nat}:(z,("mark":Str),b,n)∈ks->qo ks (.nm z) (.mk b n)
 | cell {e:Ex} {d:Ed}:qo ks e d->qo ks (.cell e) (.cell d)
 | two {o:Str} {x y:Ex} {a b:Ed}:o∈La->qo ks x a->qo ks y b->qo ks (.two o x y) (.two o a b)
def iI:Ex->Nat
 | .num _=>0
 | .nm _=>0
 | .cell e=>iI e+1
 | .two _ x y=>max (iI x) (iI y)+1
inductive tJ (m:Nat) (vs:List V) (H:Hp) (Q:VK):Prop
 | mk (d ks v e ed:_):vs=[.ref d,v]->LX H d ks->(ks.map (·.1)).Nodup->Mh H e v->qo ks e ed->iI e<=m->(∀ u H',KO H H'->LY H' ed u->Q u H')->tJ m vs H Q
def oC :Nat->Sp
 | 0=>jX
 | m+1=>fun vs H Q _=>tJ m vs H Q
theorem LX.same {d:Addr} {ks:List Ne} (h:LX H d ks) (s:KO H H'):LX H' d ks:=let ⟨kv,a,b⟩:=h;⟨kv,s _ _ a,bS (fun _ _ h=>h.kt (al s)) b⟩
theorem xg:("number":Str)∉La/\("name":Str)∉La/\("cell":Str)∉La:=by decide +kernel
theorem Mt:ay ["names","e","sort","sel","one"] ["names","e"] (aj nU):=cH (by decide +kernel)
theorem kj (F:K7 K "expression_of" "expression_of" nU f fd) (NK:Fn P w K mg base "need_known" 1 ["names","name","sorts"] (cO K)) (EX:Fn P w K mg base "expression_of" n ["names","e"] (oC m)) (hn:1<=n):KU P w K mg base bY (n+1) f fd ["names","e"] (oC (m+1)):=by
 have ZZ:=Mt
 walk_at "o"
 ·obtain ⟨d,ks,v,e,ed,rfl,hN,hnd,hV,hE,hD,q⟩:=h
  have IS:KY 1 _:=hr.mono (by lia)
  refine ⟨_,ae (aM (ak be (aq ax (pv 1) ag (fun _ _=>rfl)) af (av _)) (ah (ao (pv 1))) aH)
   (ae (aM (ak be (aq ax (pv 1) ag (fun _ _=>rfl)) af (av _))
    (ae (fT (am NK IS rfl (aa (pv 0) (aa (aq ax (pv 1) ag (fun _ _=>rfl)) (aa (aC (aa af (aa af (aa af ab)))) ab)))) (cB rfl (aA (az (i:=2) Mt.nd rfl (Or.inl rfl)) (aA (az (i:=3) Mt.nd rfl (Or.inl rfl)) bi))))
    (ah (ao (pE (ak be (pv 2) af (av _)) (aC (aa af (aa (aq ax (pv 3) ag (fun _ _=>rfl)) ab))) (aC (aa (pv 2) (aa (pv 3) ab))))))) aH)
   (ae (aM (ak be (aq ax (pv 1) ag (fun _ _=>rfl)) af (av _)) (ah (ao (aC (aa af (aa (am EX hr rfl (aa (pv 0) (aa (aq ax (pv 1) ag (fun _ _=>rfl)) ab))) ab))))) aH)
   (ae (ap (i:=4) Mt.nd rfl (Or.inl rfl) (am EX hr rfl (aa (pv 0) (aa (aq ax (pv 1) ag (fun _ _=>rfl)) ab))))
   (ah (ao (aC (aa (aq ax (pv 1) ag (fun _ _=>rfl)) (aa (pv 4) (aa (am EX hr rfl (aa (pv 0) (aa (aq ax (pv 1) ag (fun _ _=>rfl)) ab))) ab))))))))),?_⟩
  have nnum:∀ z:Str,z≠"number"->decide (V.str z=V.str "number")=false:=fun z h=>decide_eq_false fun e=>h (V.str.inj e)
  cases hE with
  | num i=>
   obtain ⟨p,rfl,hp⟩:=hV
   refine ⟨_,rfl,p,_,_,_,rfl,rfl,KP.of hp,aT,rfl,_,rfl,br (decide_eq_true rfl) ⟨_,rfl,q _ _ (KO.refl _) ⟨p,rfl,hp⟩⟩⟩
  | @fld z b i hm=>
   obtain ⟨p,rfl,hp⟩:=hV
   refine ⟨_,rfl,p,_,_,_,rfl,rfl,KP.of hp,aT,rfl,_,rfl,aZ (by decide +kernel) ?_⟩
   refine ⟨_,rfl,p,_,_,_,rfl,rfl,KP.of hp,aT,rfl,_,rfl,br (decide_eq_true rfl) ?_⟩
   refine ⟨_,rfl,_,rfl,p,_,_,_,rfl,rfl,KP.of hp,bQ,aW,fun t nt=>?_⟩
   have s1:=ad (o:=.tup [.str "place",.str "mark",.str "number"]) nt
   refine ⟨d,ks,z,"number",t,["place","mark","number"],b,i,rfl,hN.same s1,hm,hnd,.inr (KP.of ac),by decide +kernel,fun t2 sq H2 s2 e2 e3=>?_⟩
   refine ⟨t2,_,rfl,KP.of e2,rfl,_,_,rfl,_,_,rfl,rfl,?_⟩
   refine ⟨_,rfl,rfl,_,rfl,br (decide_eq_true rfl) ⟨_,rfl,sq,_,_,_,rfl,rfl,KP.of e3,bQ,aW,fun p4 n4=>?_⟩⟩
   exact q _ _ ((s1.trans s2).trans (ad n4)) ⟨p4,rfl,ac⟩
  | @pl z b i hm=>
   obtain ⟨p,rfl,hp⟩:=hV
   refine ⟨_,rfl,p,_,_,_,rfl,rfl,KP.of hp,aT,rfl,_,rfl,aZ (by decide +kernel) ?_⟩
   refine ⟨_,rfl,p,_,_,_,rfl,rfl,KP.of hp,aT,rfl,_,rfl,br (decide_eq_true rfl) ?_⟩
   refine ⟨_,rfl,_,rfl,p,_,_,_,rfl,rfl,KP.of hp,bQ,aW,fun t nt=>?_⟩
   have s1:=ad (o:=.tup [.str "place",.str "mark",.str "number"]) nt
   refine ⟨d,ks,z,"place",t,["place","mark","number"],b,i,rfl,hN.same s1,hm,hnd,.inr (KP.of ac),by decide +kernel,fun t2 sq H2 s2 e2 e3=>?_⟩
   refine ⟨t2,_,rfl,KP.of e2,rfl,_,_,rfl,_,_,rfl,rfl,?_⟩
   refine ⟨_,rfl,rfl,_,rfl,aZ (by decide +kernel) ⟨_,rfl,_,rfl,aW,fun p4 n4=>?_⟩⟩
   have s4:=ad (o:=.tup [.str "place",.ref sq]) n4
   exact q _ _ ((s1.trans s2).trans s4) ⟨p4,.ref sq,rfl,ac,sq,rfl,s4 _ _ e3⟩
  | @mk z b i hm=>
   obtain ⟨p,rfl,hp⟩:=hV
   refine ⟨_,rfl,p,_,_,_,rfl,rfl,KP.of hp,aT,rfl,_,rfl,aZ (by decide +kernel) ?_⟩
   refine ⟨_,rfl,p,_,_,_,rfl,rfl,KP.of hp,aT,rfl,_,rfl,br (decide_eq_true rfl) ?_⟩
   refine ⟨_,rfl,_,rfl,p,_,_,_,rfl,rfl,KP.of hp,bQ,aW,fun t nt=>?_⟩
   have s1:=ad (o:=.tup [.str "place",.str "mark",.str "number"]) nt
   refine ⟨d,ks,z,"mark",t,["place","mark","number"],b,i,rfl,hN.same s1,hm,hnd,.inr (KP.of ac),by decide +kernel,fun t2 sq H2 s2 e2 e3=>?_⟩
   refine ⟨t2,_,rfl,KP.of e2,rfl,_,_,rfl,_,_,rfl,rfl,?_⟩
   refine ⟨_,rfl,rfl,_,rfl,aZ (by decide +kernel) ⟨_,rfl,_,rfl,aW,fun p4 n4=>?_⟩⟩
   have s4:=ad (o:=.tup [.str "mark",.ref sq]) n4
   exact q _ _ ((s1.trans s2).trans s4) ⟨p4,.ref sq,rfl,ac,sq,rfl,s4 _ _ e3⟩
  | @cell e1 d1 h1=>
   obtain ⟨p,u,rfl,hp,hu⟩:=hV
   refine ⟨_,rfl,p,_,_,_,rfl,rfl,KP.of hp,aT,rfl,_,rfl,aZ (by decide +kernel) ?_⟩
   refine ⟨_,rfl,p,_,_,_,rfl,rfl,KP.of hp,aT,rfl,_,rfl,aZ (by decide +kernel) ?_⟩
   refine ⟨_,rfl,p,_,_,_,rfl,rfl,KP.of hp,aT,rfl,_,rfl,br (decide_eq_true rfl) ?_⟩
   cases m with
   | zero=>simp [iI] at hD
   | succ m=>
    refine ⟨_,rfl,_,rfl,p,_,_,_,rfl,rfl,KP.of hp,bQ,d,ks,u,e1,d1,rfl,hN,hnd,hu,h1,by simp [iI] at hD;lia,fun u2 H2 s2 v2=>⟨aW,fun p4 n4=>?_⟩⟩
    have s4:=ad (o:=.tup [.str "cell",u2]) n4
    exact q _ _ (s2.trans s4) ⟨p4,u2,rfl,ac,v2.kt (al s4)⟩
  | @two o x y a b ho hx hy=>
   obtain ⟨p,u,t,rfl,hp,hu,ht⟩:=hV
   obtain ⟨o1,o2,o3⟩:=xg
   refine ⟨_,rfl,p,_,_,_,rfl,rfl,KP.of hp,aT,rfl,_,rfl,aZ (decide_eq_false fun e=>o1 (V.str.inj e ▸ ho)) ?_⟩
   refine ⟨_,rfl,p,_,_,_,rfl,rfl,KP.of hp,aT,rfl,_,rfl,aZ (decide_eq_false fun e=>o2 (V.str.inj e ▸ ho)) ?_⟩
   refine ⟨_,rfl,p,_,_,_,rfl,rfl,KP.of hp,aT,rfl,_,rfl,aZ (decide_eq_false fun e=>o3 (V.str.inj e ▸ ho)) ?_⟩
   cases m with
   | zero=>simp [iI] at hD
   | succ m=>
    have hD':iI x<=m/\iI y<=m:=by
     simp only [iI] at hD
     lia
    refine ⟨_,rfl,_,rfl,p,_,_,_,rfl,rfl,KP.of hp,bQ,d,ks,u,x,a,rfl,hN,hnd,hu,hx,hD'.1,fun u2 H2 s2 v2=>?_⟩
    refine ⟨_,rfl,p,_,_,_,rfl,rfl,KP.of (s2 _ _ hp),aT,_,rfl,_,rfl,_,rfl,p,_,_,_,rfl,rfl,KP.of (s2 _ _ hp),gp,d,ks,t,y,b,rfl,hN.same s2,hnd,ht.kt (al s2),hy,hD'.2,fun u3 H3 s3 v3=>⟨aW,fun p4 n4=>?_⟩⟩
    have s4:=ad (o:=.tup [.str o,u2,u3]) n4
    exact q _ _ ((s2.trans s3).trans s4) ⟨p4,u2,u3,rfl,ac,v2.kt (al (s3.trans s4)),v3.kt (al s4)⟩
def Ll (H:Hp) (g:Sd) (v:V):Prop:=match g with
 | .cell a e=>∃ p u t,v=.ref p/\H p=some (.tup [.str "cell",u,t])/\LY H a u/\LY H e t
 | .pl b n e=>∃ p u t,v=.ref p/\H p=some (.tup [.str "place",u,t])/\MG H b n u/\LY H e t
 | .mk b n e=>∃ p u t,v=.ref p/\H p=some (.tup [.str "mark",u,t])/\MG H b n u/\LY H e t
theorem Ll.kt (k:K5 H H'):∀ {g:Sd} {v:V},Ll H g v->Ll H' g v
 | .cell _ _,_,⟨p,u,t,a,b,c,d⟩=>⟨p,u,t,a,k _ _ b,c.kt k,d.kt k⟩
 | .pl _ _ _,_,⟨p,u,t,a,b,c,d⟩=>⟨p,u,t,a,k _ _ b,c.kt k,d.kt k⟩
 | .mk _ _ _,_,⟨p,u,t,a,b,c,d⟩=>⟨p,u,t,a,k _ _ b,c.kt k,d.kt k⟩
inductive AV (ks:List Ne):Gs->Sd->Prop
 | cell {a e:Ex} {x y:Ed}:qo ks a x->qo ks e y->AV ks (.cell a e) (.cell x y)
 | pl {z:Str} {b:Bool} {n:Nat} {e:Ex} {y:Ed}:(z,("place":Str),b,n)∈ks->qo ks e y->AV ks (.nm z e) (.pl b n y)
 | mk {z:Str} {b:Bool} {n:Nat} {e:Ex} {y:Ed}:(z,("mark":Str),b,n)∈ks->qo ks e y->AV ks (.nm z e) (.mk b n y)
def xh:Gs->Nat
 | .cell a e=>max (iI a) (iI e)
 | .nm _ e=>iI e
def Nr (H:Hp) (e:Ee) (v:V):Prop:=match e with
 | .w0 s=>∃ p,v=.ref p/\H p=some (.tup [.str s])
 | .fault z=>∃ p,v=.ref p/\H p=some (.tup [.str "fault",.str z])
 | .go s j=>∃ p,v=.ref p/\H p=some (.tup [.str s,.int (j:Nat)])
theorem Nr.kt (k:K5 H H'):∀ {g:Ee} {v:V},Nr H g v->Nr H' g v
 | .w0 _,_,⟨p,a,b⟩=>⟨p,a,k _ _ b⟩
 | .fault _,_,⟨p,a,b⟩=>⟨p,a,k _ _ b⟩
 | .go _ _,_,⟨p,a,b⟩=>⟨p,a,k _ _ b⟩
inductive Cg (ks:List Ne):En->Ee->Prop
 | w0 {s:Str}:s∈(["next","back","stop"]:List Str)->Cg ks (.w0 s) (.w0 s)
 | fault (z:Str):Cg ks (.w1 "fault" z) (.fault z)
 | go {s z:Str} {b:Bool} {n:Nat}:s∈(["go","call"]:List Str)->(z,("row":Str),b,n)∈ks->Cg ks (.w1 s z) (.go s n)
def Ek:Tt->Str
 | .top _ _=>"top"
 | .pl _ _=>"place"
 | .mk _ _=>"mark"
def AW:Tt->Bool×Nat
 | .top b n=>(b,n)
 | .pl b n=>(b,n)
 | .mk b n=>(b,n)
inductive No (H:Hp) (t:Tt) (v:V):Prop
 | mk (p u:_):v=.ref p->H p=some (.tup [.str (Ek t),u])->MG H (AW t).1 (AW t).2 u->No H t v
theorem No.kt (k:K5 H H') {g:Tt} (h:No H g v):No H' g v:=let ⟨p,u,a,b,c⟩:=h;⟨p,u,a,k _ _ b,c.kt k⟩
inductive Ch (ks:List Ne):Bool->Str->Tt->Prop
 | top {z:Str} {b:Bool} {n:Nat}:(z,("place":Str),b,n)∈ks->Ch ks true z (.top b n)
 | pl {z:Str} {b:Bool} {n:Nat}:(z,("place":Str),b,n)∈ks->Ch ks false z (.pl b n)
 | mk {z:Str} {b:Bool} {n:Nat}:(z,("mark":Str),b,n)∈ks->Ch ks false z (.mk b n)
def Mz (H:Hp):Dd->V->Prop
 | .leaf s e,v=>∃ p q us u,v=.ref p/\H p=some (.tup [.str "leaf",.ref q,u])/\H q=some (.tup us)/\Paired (fun v g=>Ll H g v) us s/\Nr H e u
 | .ite t y n,v=>∃ p u a b,v=.ref p/\H p=some (.tup [.str "if",u,a,b])/\No H t u/\Mz H y a/\Mz H n b
theorem Mz.kt (k:K5 H H'):∀ {b:Dd} {v:V},Mz H b v->Mz H' b v
 | .leaf _ _,_,⟨p,q,us,u,a,b,c,d,e⟩=>⟨p,q,us,u,a,k _ _ b,k _ _ c,bS (fun _ _ h=>Ll.kt k h) d,Nr.kt k e⟩
 | .ite _ _ _,_,⟨p,u,x,y,a,b,c,d,e⟩=>⟨p,u,x,y,a,k _ _ b,c.kt k,Mz.kt k d,Mz.kt k e⟩
inductive AX (ks:List Ne):Bd->Dd->Prop
 | leaf {s:List Gs} {s':List Sd} {e:En} {e':Ee}:Paired (AV ks) s s'->Cg ks e e'->AX ks (.leaf s e) (.leaf s' e')
 | ite {t:Bool} {z:Str} {t':Tt} {y n:Bd} {y' n':Dd}:Ch ks t z t'->AX ks y y'->AX ks n n'->AX ks (.ite t z y n) (.ite t' y' n')
def yJ:Bd->Nat
 | .leaf _ _=>0
 | .ite _ _ y n=>max (yJ y) (yJ n)+1
def qp (m:Nat):Bd->Prop
 | .leaf s _=>(∀ g∈s,xh g<=m)/\s.length<=4
 | .ite _ _ y n=>qp m y/\qp m n
inductive oE (m:Nat) (vs:List V) (H:Hp) (Q:VK) (Z3:XK):Prop
 | mk (d ks v g g':_):vs=[.ref d,v]->LX H d ks->(ks.map (·.1)).Nodup->Mf H g v->AV ks g g'->xh g<=m->(∀ u H',KO H H'->Ll H' g' u->Q u H')->oE m vs H Q Z3
inductive lR (vs:List V) (H:Hp) (Q:VK) (Z3:XK):Prop
 | mk (d ks v t z t':_):vs=[.ref d,v]->LX H d ks->(ks.map (·.1)).Nodup->Md H t z v->Ch ks t z t'->(∀ u H',KO H H'->No H' t' u->Q u H')->lR vs H Q Z3
inductive lS (vs:List V) (H:Hp) (Q:VK) (Z3:XK):Prop
 | mk (d ks v e e':_):vs=[.ref d,v]->LX H d ks->(ks.map (·.1)).Nodup->NG H e v->Cg ks e e'->(∀ u H',KO H H'->Nr H' e' u->Q u H')->lS vs H Q Z3
inductive mW (m0:Nat) (m:Nat) (vs:List V) (H:Hp) (Q:VK):Prop
 | mk (d ks v b b':_):vs=[.ref d,v]->LX H d ks->(ks.map (·.1)).Nodup->M6 H b v->AX ks b b'->yJ b<=m->qp m0 b->(∀ u H',KO H H'->Mz H' b' u->Q u H')->mW m0 m vs H Q
def iY (m0:Nat):Nat->Sp
 | 0=>jX
 | m+1=>fun vs H Q _=>mW m0 m vs H Q
theorem Lo:ay ["names","given","sort","target","word","address","sel"] ["names","given"] (aj rq):=cH (by decide +kernel)
theorem xi (F:K7 K "set_of" "set_of" rq f fd) (NK:Fn P w K mg base "need_known" 1 ["names","name","sorts"] (cO K)) (EX:Fn P w K mg base "expression_of" n ["names","e"] (oC (m+1))) (hn:1<=n):KU P w K mg base bY (n+1) f fd ["names","given"] (oE m):=by
 have ZZ:=Lo
 walk_at "o"
 ·obtain ⟨d,ks,v,g,g',rfl,hN,hnd,hV,hG,hD,q⟩:=h
  have IS:KY 1 _:=hr.mono (by lia)
  refine ⟨_,ae (fT (pv 1) (cB rfl (aA (az (i:=2) Lo.nd rfl (Or.inl rfl)) (aA (az (i:=3) Lo.nd rfl (Or.inl rfl)) (aA (az (i:=4) Lo.nd rfl (Or.inl rfl)) bi)))))
   (ae (aM (ak be (pv 2) af (av _))
    (ae (ap (i:=5) Lo.nd rfl (Or.inl rfl) (am EX hr rfl (aa (pv 0) (aa (pv 3) ab))))
    (ah (ao (aC (aa af (aa (pv 5) (aa (am EX hr rfl (aa (pv 0) (aa (pv 4) ab))) ab))))))) aH)
   (ae (fT (am NK IS rfl (aa (pv 0) (aa (pv 3) (aa (aC (aa af (aa af ab))) ab)))) (cB rfl (aA (az (i:=2) Lo.nd rfl (Or.inl rfl)) (aA (az (i:=6) Lo.nd rfl (Or.inl rfl)) bi))))
   (ah (ao (aC (aa (pv 2) (aa (pv 6) (aa (am EX hr rfl (aa (pv 0) (aa (pv 4) ab))) ab)))))))),?_⟩
  cases hG with
  | @cell a e x y ha he=>
   obtain ⟨p,u,t,rfl,hp,hu,ht⟩:=hV
   have hD':iI a<=m/\iI e<=m:=by
    simp only [xh] at hD
    lia
   refine ⟨_,rfl,p,_,rfl,KP.of hp,rfl,_,_,rfl,_,_,rfl,_,_,rfl,rfl,?_⟩
   refine ⟨_,rfl,rfl,_,rfl,br (decide_eq_true rfl) ?_⟩
   refine ⟨_,rfl,_,rfl,d,ks,u,a,x,rfl,hN,hnd,hu,ha,hD'.1,fun u2 H2 s2 v2=>?_⟩
   refine ⟨_,rfl,_,rfl,_,rfl,d,ks,t,e,y,rfl,hN.same s2,hnd,ht.kt (al s2),he,hD'.2,fun u3 H3 s3 v3=>⟨aW,fun p4 n4=>?_⟩⟩
   have s4:=ad (o:=.tup [.str "cell",u2,u3]) n4
   exact q _ _ ((s2.trans s3).trans s4) ⟨p4,u2,u3,rfl,ac,v2.kt (al (s3.trans s4)),v3.kt (al s4)⟩
  | @pl z b i e y hm he=>
   obtain ⟨p,t,rfl,hp,ht⟩:=hV
   refine ⟨_,rfl,p,_,rfl,KP.of hp,rfl,_,_,rfl,_,_,rfl,_,_,rfl,rfl,?_⟩
   refine ⟨_,rfl,rfl,_,rfl,aZ (by decide +kernel) ?_⟩
   refine ⟨_,rfl,_,rfl,aW,fun t1 nt=>?_⟩
   have s1:=ad (o:=.tup [.str "place",.str "mark"]) nt
   refine ⟨d,ks,z,"place",t1,["place","mark"],b,i,rfl,hN.same s1,hm,hnd,.inr (KP.of ac),by decide +kernel,fun t2 sq H2 s2 e2 e3=>?_⟩
   have Jd:=s1.trans s2
   refine ⟨t2,_,rfl,KP.of e2,rfl,_,_,rfl,_,_,rfl,rfl,?_⟩
   refine ⟨_,rfl,_,rfl,_,rfl,_,rfl,d,ks,t,e,y,rfl,hN.same Jd,hnd,ht.kt (al Jd),he,hD,fun u3 H3 s3 v3=>⟨aW,fun p4 n4=>?_⟩⟩
   have s4:=ad (o:=.tup [.str "place",.ref sq,u3]) n4
   exact q _ _ ((Jd.trans s3).trans s4) ⟨p4,_,u3,rfl,ac,⟨sq,rfl,s4 _ _ (s3 _ _ e3)⟩,v3.kt (al s4)⟩
  | @mk z b i e y hm he=>
   obtain ⟨p,t,rfl,hp,ht⟩:=hV
   refine ⟨_,rfl,p,_,rfl,KP.of hp,rfl,_,_,rfl,_,_,rfl,_,_,rfl,rfl,?_⟩
   refine ⟨_,rfl,rfl,_,rfl,aZ (by decide +kernel) ?_⟩
   refine ⟨_,rfl,_,rfl,aW,fun t1 nt=>?_⟩
   have s1:=ad (o:=.tup [.str "place",.str "mark"]) nt
   refine ⟨d,ks,z,"mark",t1,["place","mark"],b,i,rfl,hN.same s1,hm,hnd,.inr (KP.of ac),by decide +kernel,fun t2 sq H2 s2 e2 e3=>?_⟩
   have Jd:=s1.trans s2
   refine ⟨t2,_,rfl,KP.of e2,rfl,_,_,rfl,_,_,rfl,rfl,?_⟩
   refine ⟨_,rfl,_,rfl,_,rfl,_,rfl,d,ks,t,e,y,rfl,hN.same Jd,hnd,ht.kt (al Jd),he,hD,fun u3 H3 s3 v3=>⟨aW,fun p4 n4=>?_⟩⟩
   have s4:=ad (o:=.tup [.str "mark",.ref sq,u3]) n4
   exact q _ _ ((Jd.trans s3).trans s4) ⟨p4,_,u3,rfl,ac,⟨sq,rfl,s4 _ _ (s3 _ _ e3)⟩,v3.kt (al s4)⟩
theorem Mc:ay ["names","test","word","name"] ["names","test"] (aj nS):=cH (by decide +kernel)
theorem uZ (F:K7 K "test_of" "test_of" nS f fd) (NK:Fn P w K mg base "need_known" 1 ["names","name","sorts"] (cO K)):KU P w K mg base bY 2 f fd ["names","test"] lR:=by
 have ZZ:=Mc
 walk_at "o"
 ·obtain ⟨d,ks,v,t,z,t',rfl,hN,hnd,⟨p,rfl,hp⟩,hG,q⟩:=h
  refine ⟨_,ae (fT (pv 1) (cB rfl (aA (az (i:=2) Mc.nd rfl (Or.inl rfl)) (aA (az (i:=3) Mc.nd rfl (Or.inl rfl)) bi))))
   (ae (aM (ak be (pv 2) af (av _)) (ah (ao (aC (aa af (aa (aq ax (am NK hr rfl (aa (pv 0) (aa (pv 3) (aa (aC (aa af ab)) ab)))) ag (fun _ _=>rfl)) ab))))) aH)
   (ah (ao (am NK hr rfl (aa (pv 0) (aa (pv 3) (aa (aC (aa af (aa af ab))) ab))))))),?_⟩
  refine ⟨_,rfl,p,_,rfl,KP.of hp,rfl,_,_,rfl,_,_,rfl,rfl,?_⟩
  cases hG with
  | @top _ b i hm=>
   refine ⟨_,rfl,rfl,_,rfl,br (decide_eq_true rfl) ?_⟩
   refine ⟨_,rfl,_,rfl,aW,fun t1 nt=>?_⟩
   have s1:=ad (o:=.tup [.str "place"]) nt
   refine ⟨d,ks,z,"place",t1,["place"],b,i,rfl,hN.same s1,hm,hnd,.inr (KP.of ac),Gz,fun t2 sq H2 s2 e2 e3=>?_⟩
   refine ⟨t2,_,_,_,rfl,rfl,KP.of e2,bQ,aW,fun p4 n4=>?_⟩
   have s4:=ad (o:=.tup [.str "top",.ref sq]) n4
   exact q _ _ ((s1.trans s2).trans s4) ⟨p4,_,rfl,ac,sq,rfl,s4 _ _ e3⟩
  | @pl _ b i hm=>
   refine ⟨_,rfl,rfl,_,rfl,aZ (by decide +kernel) ?_⟩
   refine ⟨_,rfl,_,rfl,aW,fun t1 nt=>?_⟩
   have s1:=ad (o:=.tup [.str "place",.str "mark"]) nt
   refine ⟨d,ks,z,"place",t1,["place","mark"],b,i,rfl,hN.same s1,hm,hnd,.inr (KP.of ac),by decide +kernel,fun t2 sq H2 s2 e2 e3=>?_⟩
   exact q _ _ (s1.trans s2) ⟨t2,_,rfl,e2,sq,rfl,e3⟩
  | @mk _ b i hm=>
   refine ⟨_,rfl,rfl,_,rfl,aZ (by decide +kernel) ?_⟩
   refine ⟨_,rfl,_,rfl,aW,fun t1 nt=>?_⟩
   have s1:=ad (o:=.tup [.str "place",.str "mark"]) nt
   refine ⟨d,ks,z,"mark",t1,["place","mark"],b,i,rfl,hN.same s1,hm,hnd,.inr (KP.of ac),by decide +kernel,fun t2 sq H2 s2 e2 e3=>?_⟩
   exact q _ _ (s1.trans s2) ⟨t2,_,rfl,e2,sq,rfl,e3⟩
theorem xj:ay ["names","end"] ["names","end"] (aj rB):=cH (by decide +kernel)
theorem vf (F:K7 K "end_of" "end_of" rB f fd) (NK:Fn P w K mg base "need_known" 1 ["names","name","sorts"] (cO K)):KU P w K mg base bY 2 f fd ["names","end"] lS:=by
 have ZZ:=xj
 walk_at "o"
 ·obtain ⟨d,ks,v,e,e',rfl,hN,hnd,⟨p,rfl,hp⟩,hG,q⟩:=h
  refine ⟨_,ae (aM (ak dh (aq ax (pv 1) ag (fun _ _=>rfl)) (aC (aa af (aa af ab))) rfl) (ah (ao (aC (aa (aq ax (pv 1) ag (fun _ _=>rfl)) (aa (aq ax (aq ax (am NK hr rfl (aa (pv 0) (aa (aq ax (pv 1) ag (fun _ _=>rfl)) (aa (aC (aa af ab)) ab)))) ag (fun _ _=>rfl)) ag (fun _ _=>rfl)) ab))))) aH)
   (ah (ao (pv 1))),?_⟩
  have ein:∀ z:Str,iH (.str z) [.str "go",.str "call"]=(["go","call"]:List Str).contains z:=fun z=>c7 z ["go","call"]
  cases hG with
  | @w0 s hs=>
   have hp':H p=some (.tup [.str s]):=hp
   refine ⟨_,rfl,p,_,_,_,rfl,rfl,KP.of hp',aT,aW,fun t1 nt=>?_⟩
   have s1:=ad (o:=.tup [.str "go",.str "call"]) nt
   refine ⟨t1,_,rfl,.inr (KP.of ac),rfl,rfl,_,rfl,aZ ?_ ⟨_,rfl,q _ _ s1 ⟨p,rfl,s1 _ _ hp'⟩⟩⟩
   show iH (.str s) [.str "go",.str "call"]=false
   rw [ein]
   simp only [GF,GH,or_false] at hs
   rcases hs with rfl|rfl|rfl<;>decide +kernel
  | fault z=>
   have hp':H p=some (.tup [.str "fault",.str z]):=hp
   refine ⟨_,rfl,p,_,_,_,rfl,rfl,KP.of hp',aT,aW,fun t1 nt=>?_⟩
   have s1:=ad (o:=.tup [.str "go",.str "call"]) nt
   refine ⟨t1,_,rfl,.inr (KP.of ac),rfl,rfl,_,rfl,aZ ?_ ⟨_,rfl,q _ _ s1 ⟨p,rfl,s1 _ _ hp'⟩⟩⟩
   show iH (.str "fault") [.str "go",.str "call"]=false
   decide +kernel
  | @go s z b i hs hm=>
   have hp':H p=some (.tup [.str s,.str z]):=hp
   refine ⟨_,rfl,p,_,_,_,rfl,rfl,KP.of hp',aT,aW,fun t1 nt=>?_⟩
   have s1:=ad (o:=.tup [.str "go",.str "call"]) nt
   refine ⟨t1,_,rfl,.inr (KP.of ac),rfl,rfl,_,rfl,br ?_ ?_⟩
   ·show iH (.str s) [.str "go",.str "call"]=true
    rw [ein]
    exact Hh.mpr hs
   generalize aI H t1 (.tup [V.str "go",.str "call"])=H1 at *
   refine ⟨_,rfl,p,_,_,_,rfl,rfl,KP.of (s1 _ _ hp'),aT,_,rfl,_,rfl,p,_,_,_,rfl,rfl,KP.of (s1 _ _ hp'),bQ,aW,fun t2 nt2=>?_⟩
   have s2:=ad (o:=.tup [.str "row"]) nt2
   refine ⟨d,ks,z,"row",t2,["row"],b,i,rfl,hN.same (s1.trans s2),hm,hnd,.inr (KP.of ac),Gz,fun t3 sq H3 s3 e2 e3=>?_⟩
   refine ⟨t3,_,_,_,rfl,rfl,KP.of e2,bQ,sq,_,_,_,rfl,rfl,KP.of e3,bQ,aW,fun p4 n4=>?_⟩
   exact q _ _ (((s1.trans s2).trans s3).trans (ad n4)) ⟨p4,rfl,ac⟩
theorem LJ:ay ["names","body","test","yes","sets"] ["names","body"] (aj ke):=cH (by decide +kernel)
theorem Gr:(["given","names"]:List Str).Nodup:=by decide +kernel
theorem gO {n m m0:Nat} (F:K7 K "deed_of" "deed_of" ke f fd) (B:Bl mg) (TO:Fn P w K mg base "test_of" 2 ["names","test"] lR) (EO:Fn P w K mg base "end_of" 2 ["names","end"] lS) (SO:Fn P w K mg base "set_of" n ["names","given"] (oE m0)) (DO:Fn P w K mg base "deed_of" n ["names","body"] (iY m0 m)) (hn:2<=n):KU P w K mg base bY (n+1) f fd ["names","body"] (iY m0 (m+1)):=by
 have ZZ:=LJ
 walk_at "o"
 ·obtain ⟨d,ks,v,b,b',rfl,hN,hnd,hV,hG,hD,hS,q⟩:=h
  have IU:KY 2 _:=hr.mono (by lia)
  refine ⟨_,ae (aM (ak be (aq ax (pv 1) ag (fun _ _=>rfl)) af (av _))
    (ae (ap (i:=2) LJ.nd rfl (Or.inl rfl) (am TO IU rfl (aa (pv 0) (aa (aq ax (pv 1) ag (fun _ _=>rfl)) ab))))
    (ae (ap (i:=3) LJ.nd rfl (Or.inl rfl) (am DO hr rfl (aa (pv 0) (aa (aq ax (pv 1) ag (fun _ _=>rfl)) ab))))
    (ah (ao (aC (aa af (aa (pv 2) (aa (pv 3) (aa (am DO hr rfl (aa (pv 0) (aa (aq ax (pv 1) ag (fun _ _=>rfl)) ab))) ab))))))))) aH)
   (ae (ap (i:=4) LJ.nd rfl (Or.inl rfl) (aU bX (by rfl) B.tuple cx (aa (fV (N':=["given","names"]) (ix:=[none,some 0]) (sc0:=aj ke) (N:=["names","body","test","yes","sets"]) rfl (by decide +kernel) (ft (aq ax (pv 1) ag (fun _ _=>rfl)))
     (fun C' cl s H fp=>az (i:=0) Gr rfl (Or.inl rfl) (.inr rfl)) (fun _ _ _ _ _=>fU) (fun C' cl s H fp=>am SO hr rfl (aa (pv 1) (aa (pv 0) ab)))) ab)))
   (ah (ao (aC (aa af (aa (pv 4) (aa (am EO IU rfl (aa (pv 0) (aa (aq ax (pv 1) ag (fun _ _=>rfl)) ab))) ab))))))),?_⟩
  cases hG with
  | @ite t z t' y n' y' n'' ht hy hn'=>
   obtain ⟨p,u,a,bb,rfl,hp,hu,ha,hb⟩:=hV
   cases m with
   | zero=>simp [yJ] at hD
   | succ m=>
    have hD':yJ y<=m/\yJ n'<=m:=by
     simp only [yJ] at hD
     lia
    refine ⟨_,rfl,p,_,_,_,rfl,rfl,KP.of hp,aT,rfl,_,rfl,br (decide_eq_true rfl) ?_⟩
    refine ⟨_,rfl,_,rfl,p,_,_,_,rfl,rfl,KP.of hp,bQ,d,ks,u,t,z,t',rfl,hN,hnd,hu,ht,fun u1 H1 s1 v1=>?_⟩
    refine ⟨_,rfl,_,rfl,p,_,_,_,rfl,rfl,KP.of (s1 _ _ hp),gp,d,ks,a,y,y',rfl,hN.same s1,hnd,ha.kt (al s1),hy,hD'.1,hS.1,fun u2 H2 s2 v2=>?_⟩
    have Jd:=s1.trans s2
    refine ⟨_,rfl,_,rfl,_,rfl,_,rfl,p,_,_,_,rfl,rfl,KP.of (Jd _ _ hp),Ce,d,ks,bb,n',n'',rfl,hN.same Jd,hnd,hb.kt (al Jd),hn',hD'.2,hS.2,fun u3 H3 s3 v3=>⟨aW,fun p4 n4=>?_⟩⟩
    have s4:=ad (o:=.tup [.str "if",u1,u2,u3]) n4
    exact q _ _ ((Jd.trans s3).trans s4) ⟨p4,u1,u2,u3,rfl,ac,v1.kt (al (s2.trans (s3.trans s4))),v2.kt (al (s3.trans s4)),v3.kt (al s4)⟩
  | @leaf s s' e e' hs he=>
   obtain ⟨p,qs,us,u,rfl,hp,hq,Ja,hu⟩:=hV
   have sz:(1000:Nat)<=sizeLine:=by decide
   refine ⟨_,rfl,p,_,_,_,rfl,rfl,KP.of hp,aT,rfl,_,rfl,aZ (by decide +kernel) ?_⟩
   refine ⟨_,rfl,p,_,_,_,rfl,rfl,KP.of hp,bQ,qs,rfl,⟨_,KP.of hq⟩,?_⟩
   have l1:=Ja.length
   have l2:=hs.length
   have l4:=hS.2
   refine ww (K:=K) (a:=qs) (xs:=us) (fun i ys H'=>KO H H'/\ys.length=i/\i<=us.length/\Paired (fun v g=>Ll H' g v) ys (s'.take i)) ⟨KO.refl _,rfl,Hj _,.nil⟩ (fun i ys H' hi ⟨a1,a2,a3,_⟩=>⟨KP.of (a1 _ _ hq),by lia⟩) ?_ ?_
   ·rintro i x ys H1 hx ⟨s1,ly,hi,hys⟩
    obtain ⟨g,hg,hgv⟩:=gr Ja hx
    obtain ⟨g',hg',hgn⟩:=gr hs hg
    have Je:=(GA.mp hx).1
    refine ⟨⟨rfl,trivial⟩,fW ?_⟩
    refine ⟨_,rfl,_,rfl,d,ks,x,g,g',rfl,hN.same s1,hnd,hgv.kt (al s1),hgn,hS.1 g (GM hg),fun u2 H2 s2 v2=>?_⟩
    refine Nx.mk Je ⟨s1.trans s2,by rw [Gy,ly];rfl,Je,?_⟩
    rw [GX,hg']
    exact gq (R:=fun v g=>Ll H2 g v) v2 (bS (R:=fun v g=>Ll H1 g v) (fun _ _ h=>h.kt (al s2)) hys)
   ·rintro ys H1 ⟨s1,ly,_,hys⟩ lq nlq
    rw [show us.length=s'.length by lia,GV] at hys
    generalize zz:aI H1 lq _=H2
    have s2:KO H1 H2:=zz ▸ ad nlq
    have e2:H2 lq=some (.lst ys):=zz ▸ ac
    clear zz
    refine ⟨lq,_,rfl,.inl ⟨KW.of e2,fun t nt=>?_⟩⟩
    generalize zz:aI H2 t _=H3
    have s3:KO H2 H3:=zz ▸ ad nt
    have e3:H3 t=some (.tup ys):=zz ▸ ac
    clear zz
    have s03:=(s1.trans s2).trans s3
    refine ⟨_,rfl,_,rfl,_,rfl,p,_,_,_,rfl,rfl,KP.of (s03 _ _ hp),gp,d,ks,u,e,e',rfl,hN.same s03,hnd,hu.kt (al s03),he,fun u4 H4 s4 v4=>⟨aW,fun p5 n5=>?_⟩⟩
    have s5:=ad (o:=.tup [.str "leaf",.ref t,u4]) n5
    exact q _ _ ((s03.trans s4).trans s5) ⟨p5,t,ys,u4,rfl,ac,s5 _ _ (s4 _ _ e3),bS (R:=fun v g=>Ll H1 g v) (fun _ _ h=>h.kt (al (s2.trans (s3.trans (s4.trans s5))))) hys,v4.kt (al s5)⟩
def tK (zs:List Str):List (cE×V):=zs.map fun z=>(Sum.inr z,.bl true)
theorem AY:∀ {zs:List Str} {z:Str},z∉zs->bh (tK zs) (Sum.inr z)=none
 | [],_,_=>pX
 | x::zs,z,h=>by
  unfold tK
  rw [GO,ci]
  ·exact AY (fun m=>h (GD _ m))
  ·intro e
   exact h (by rw [<-Sum.inr.inj e];exact Gz)
inductive Ma (H:Hp) (u:V) (x:Kn):Prop
 | mk (p tf b us:_):u=.ref p->H p=some (.tup [.str x.name,.ref tf,b])->H tf=some (.tup us)->Paired (Lf H) us x.fs->Mz H x.dd b->Ma H u x
theorem Ma.kt (k:K5 H H') {x:Kn} (h:Ma H u x):Ma H' u x:=let ⟨p,tf,b,us,a,c,d,e,f⟩:=h;⟨p,tf,b,us,a,k _ _ c,k _ _ d,bS (fun _ _ h=>h.kt k) e,f.kt k⟩
structure Ci (ks:List Ne) (x:Kn):Prop where
 nd:((ks++fN x.fs).map (·.1)).Nodup
 l3:x.fs.length<=3
 bn:AX (ks++fN x.fs) x.bd x.dd
 b3:yJ x.bd<=3
 s3:qp 3 x.bd
inductive Cj (vs:List V) (H:Hp) (Q:VK) (Z3:XK):Prop
 | mk (d tk us ks IZ:_):vs=[.ref d,.ref tk]->LX H d ks->H tk=some (.tup us)->Paired (LI H) us IZ->(IZ.map Kn.name).Nodup->(∀ x∈IZ,Ci ks x)->ks.length<=10->IZ.length<=8->(∀ p us' H',KO H H'->H p=none->H' p=some (.tup us')->Paired (Ma H') us' IZ->Q (.ref p) H')->Cj vs H Q Z3
structure NI (H:Hp) (IZ:List Kn) (ln lt:Addr) (i:Nat) (H':Hp):Prop where
 sm:KO H H'
 n1:H ln=none
 n2:H lt=none
 ne:ln≠lt
 ls:∃ us,H' ln=some (.lst us)/\us.length=i/\Paired (Ma H') us (IZ.take i)
 tk:H' lt=some (.dK (tK ((IZ.take i).map Kn.name)))
theorem MH:ay ["names","kinds","named","taken","name","fields","body","deed"] ["names","kinds"] (aj gj):=cH (by decide +kernel)
theorem El (F:K7 K "kinds_named" "kinds_named" gj f fd) (B:Bl mg) (NW:Fn P w K mg base "names_with_fields" 2 ["names","fields"] xf) (DO:Fn P w K mg base "deed_of" n ["names","body"] (iY 3 4)) (hn:2<=n):KU P w K mg base bY (n+1) f fd ["names","kinds"] Cj:=by
 have ZZ:=MH
 walk_at "o"
 ·obtain ⟨d,tk,us,ks,IZ,rfl,hN,ht,hk,hnd,hfs,h10,h8,q⟩:=h
  have hu:=dP hr
  have IU:KY 2 _:=hr.mono (by lia)
  have sz:(1000:Nat)<=sizeLine:=by decide
  refine ⟨_,ae (ap (i:=2) MH.nd rfl (Or.inl rfl) (aB ab))
   (ae (ap (i:=3) MH.nd rfl (Or.inl rfl) qd)
   (ae (cr PassesOwn.never rfl (ft (pv 1)) (cB rfl (aA (az (i:=4) MH.nd rfl (Or.inl rfl)) (aA (az (i:=5) MH.nd rfl (Or.inl rfl)) (aA (az (i:=6) MH.nd rfl (Or.inl rfl)) bi))))
    (ae (aM (qP (wt hu (pv 4) (pv 3))) (ah cN) aH)
    (ae (dQ hu (pv 3) (pv 4) jR rfl)
    (ae (ap (i:=7) MH.nd rfl (Or.inl rfl) (am DO hr rfl (aa (am NW IU rfl (aa (pv 0) (aa (pv 5) ab))) (aa (pv 6) ab))))
    (ah (aN (b9 GS GR GQ bq (pv 2) (aa (aC (aa (pv 4) (aa (pv 5) (aa (pv 7) ab)))) ab))))))))
   (ah (ao (aU bX (by rfl) B.tuple cx (aa (pv 2) ab)))))),?_⟩
  have lk:=hk.length
  refine ⟨aW,fun ln n1=>?_⟩
  have s1:=ad (o:=.lst []) n1
  have e1:(aI H ln (.lst [])) ln=some (.lst []):=ac
  generalize aI H ln (.lst ([]:List V))=H1 at *
  refine fun lt n2=>?_
  have s2:=ad (o:=.dK []) n2
  have e2:(aI H1 lt (.dK [])) lt=some (.dK []):=ac
  have I0:NI H IZ ln lt 0 (aI H1 lt (.dK [])):=⟨s1.trans s2,n1,s1.free n2,aK e1 n2,⟨[],s2 _ _ e1,rfl,.nil⟩,e2⟩
  generalize aI H1 lt (.dK ([]:List (cE×V)))=H2 at *
  refine ⟨_,rfl,tk,rfl,⟨_,KP.of (I0.sm _ _ ht)⟩,?_⟩
  refine gD (K:=K) (a:=tk) (xs:=us) (fun i σ H'=>∃ v4 v5 v6 v7:Option V,σ=[some (.ref d),some (.ref tk),some (.ref ln),some (.ref lt),v4,v5,v6,v7]/\NI H IZ ln lt i H') ⟨_,_,_,_,rfl,I0⟩ (fun i σ H' _ ⟨_,_,_,_,_,I⟩=>KP.of (I.sm _ _ ht)) ?_ ?_
  ·rintro i x σ H3 hx ⟨v4,v5,v6,v7,rfl,I⟩
   obtain ⟨y,hy,hK⟩:=gr hk hx
   have Je:i < IZ.length:=(GA.mp hy).1
   have hyi:IZ[i]=y:=(GA.mp hy).2
   obtain ⟨p,tf,b,fu,rfl,hp,htf,hfu,hb⟩:=hK
   have etk:IZ.take (i+1)=IZ.take i++[y]:=by rw [GX,hy];rfl
   have hym:y∈IZ:=hyi ▸ Hv Je
   have hno:y.name∉(IZ.take i).map Kn.name:=by
    intro hm
    have e5:IZ=IZ.take i++(y::IZ.drop (i+1)):=by
     have:=(Hx i IZ).symm
     rw [Hr Je,hyi] at this
     exact this
    rw [e5,GK,GO] at hnd
    exact (ID.mp hnd).2.2 _ hm _ Gz rfl
   have hval:=AY hno
   have g:Li H3 lt (.str y.name) none:=by
    have:=Li.k (k:=Sum.inr y.name) I.tk
    rw [hval] at this
    exact this
   refine ⟨p,_,rfl,KP.of (I.sm _ _ hp),rfl,_,_,rfl,_,_,rfl,_,_,rfl,rfl,?_⟩
   refine ⟨_,rfl,_,rfl,lt,_,rfl,g,_,rfl,ck ?_⟩
   have ltk:(tK ((IZ.take i).map Kn.name)).length<=8:=by
    unfold tK
    rw [GC,GC,GG]
    lia
   refine ⟨_,rfl,_,rfl,lt,_,rfl,LA.k (k:=Sum.inr y.name) I.tk (by lia),?_⟩
   rw [pZ _ hval]
   have et:tK ((IZ.take i).map Kn.name)++[(Sum.inr y.name,V.bl true)]=tK ((IZ.take (i+1)).map Kn.name):=by
    unfold tK
    rw [etk,GK,GK]
    rfl
   rw [et]
   obtain ⟨us3,e3,l3,p3⟩:=I.ls
   have k4:K5 H3 (aI H3 lt (.dK (tK ((IZ.take (i+1)).map Kn.name)))):=AU I.tk
   have s4:KO H (aI H3 lt (.dK (tK ((IZ.take (i+1)).map Kn.name)))):=bK I.n2 I.sm
   have e4:(aI H3 lt (.dK (tK ((IZ.take (i+1)).map Kn.name)))) ln=some (.lst us3):=by rw [aw I.ne];exact e3
   have t4:(aI H3 lt (.dK (tK ((IZ.take (i+1)).map Kn.name)))) lt=some (.dK (tK ((IZ.take (i+1)).map Kn.name))):=ac
   have p4:=bS (fun _ _ h=>Ma.kt k4 h) p3
   generalize aI H3 lt (.dK (tK ((IZ.take (i+1)).map Kn.name)))=H4 at *
   have hN4:LX H4 d ks:=let ⟨kv2,a,b2⟩:=hN;⟨kv2,s4 _ _ a,bS (fun _ _ h=>h.kt (al s4)) b2⟩
   refine ⟨_,rfl,_,rfl,d,tf,fu,ks,y.fs,rfl,hN4,s4 _ _ htf,bS (fun _ _ h=>h.kt (al s4)) hfu,(hfs y hym).nd,by have:=(hfs y hym).l3;lia,fun d' H5 s5 nd' nm'=>?_⟩
   have s45:=s4.trans s5
   refine ⟨_,rfl,d',ks++fN y.fs,b,y.bd,y.dd,rfl,nm',(hfs y hym).nd,hb.kt (al s45),(hfs y hym).bn,(hfs y hym).b3,(hfs y hym).s3,fun b' H6 s6 hb'=>?_⟩
   have s46:=s5.trans s6
   have s06:=s4.trans s46
   refine ⟨_,rfl,.inl ⟨rfl,_,KW.of (s46 _ _ e4)⟩,_,rfl,_,rfl,_,rfl,aW,fun pt npt=>?_⟩
   have s7:=ad (o:=.tup [.str y.name,.ref tf,b']) npt
   have e7:=s7 _ _ (s46 _ _ e4)
   have ept:(aI H6 pt (.tup [.str y.name,.ref tf,b'])) pt=some (.tup [.str y.name,.ref tf,b']):=ac
   have s07:=s06.trans s7
   generalize aI H6 pt (.tup [V.str y.name,.ref tf,b'])=H7 at *
   refine ⟨ln,_,_,rfl,rfl,e7,by rw [l3];lia,?_⟩
   have k8:=tE (ys:=us3++[V.ref pt]) e7
   have k47:K5 H4 H7:=al (s46.trans s7)
   refine ⟨_,_,_,_,rfl,bK I.n1 s07,I.n1,I.n2,I.ne,⟨us3++[.ref pt],ac,by simp [l3],?_⟩,?_⟩
   ·rw [etk]
    refine gq ⟨pt,tf,b',fu,rfl,k8 _ _ ept,k8 _ _ (s07 _ _ htf),bS (fun _ _ h=>(h.kt (al s07)).kt k8) hfu,(hb'.kt (al s7)).kt k8⟩ (bS (fun _ _ h=>(Ma.kt k47 h).kt k8) p4)
   ·rw [aw I.ne.symm]
    exact s7 _ _ (s46 _ _ t4)
  ·rintro σ H3 ⟨v4,v5,v6,v7,rfl,I⟩
   obtain ⟨us3,e3,l3,p3⟩:=I.ls
   rw [lk,GV] at p3
   refine ⟨_,rfl,ln,us3,rfl,.inl ⟨KW.of e3,fun p np=>?_⟩⟩
   have s4:=ad (o:=.tup us3) np
   exact q p us3 _ (I.sm.trans s4) (I.sm.free np) ac (bS (fun _ _ h=>Ma.kt (al s4) h) p3)
theorem dR {es:List Expr} {k:Nat} {pos:Pos} {t:Bt} (h:X.K=K) (hc:X.calm=true) (hg:DF X es t) (hn:(assignEach es X.env).length=n:=by rfl) (hst:(assignEach es X.env).findIdx? (·.1)=none:=by rfl):PG X (.Tuple es k pos) (Bv K n t):=by
 subst h
 exact cB hc hg hn hst
def Ck (vw vc vd vp vm vg:V) (pn pk:Addr):List (Str×V):=[("width",vw),("cells",vc),("depth",vd),("places",vp),("marks",vm),("gate",vg),("kinds",.ref pn),("kinds_known",.ref pk)]
def FM:List Str:=["width","cells","depth","places","marks","gate","kinds","kinds_known"]
structure Tc (K:ZF) (C:Addr):Prop where
 cl:MW K C
 na:∀ f∈FM,Lc K C f
abbrev oF:Stmt:=db iS 0
inductive oG (C:Addr) (vs:List V) (H:Hp) (Q:VK) (Z3:XK):Prop
 | mk (x dx vw vc vd vp vm vg pk us IZ:_):vs=[.ref x,vw,vc,vd,vp,vm,vg,.ref pk]->H x=some (.ins C dx [])->H pk=some (.tup us)->Paired (Ma H) us IZ->IZ.length<=8->(∀ pn H',H' x=some (.ins C dx (Ck vw vc vd vp vm vg pn pk))->H pn=none->H' pn=some (.tup (ai (IZ.map Kn.name)))->K0 x H H'->Q .non H')->oG C vs H Q Z3
theorem zG:ay ["self","width","cells","depth","places","marks","gate","kinds_known"] ["self","width","cells","depth","places","marks","gate","kinds_known"] (aj oF):=cH (by decide +kernel)
theorem Cl:(["name","fields","deed"]:List Str).Nodup:=by decide +kernel
theorem xk (F:K7 K "__init__" "Table.__init__" oF f fd) (T:Tc K C) (B:Bl mg):KU P w K mg base bY 1 f fd ["self","width","cells","depth","places","marks","gate","kinds_known"] (oG C):=by
 have ZZ:=zG
 walk_at "o"
 ·obtain ⟨x,dx,vw,vc,vd,vp,vm,vg,pk,us,IZ,rfl,hx,hk,hp,h8,q⟩:=h
  have sz:(1000:Nat)<=sizeLine:=by decide
  refine ⟨_,(ae (eu (pv 0) (pv 1) rfl)
   (ae (eu (pv 0) (pv 2) rfl)
   (ae (eu (pv 0) (pv 3) rfl)
   (ae (eu (pv 0) (pv 4) rfl)
   (ae (eu (pv 0) (pv 5) rfl)
   (ae (eu (pv 0) (pv 6) rfl)
   (ae (eu (pv 0) (aU bX (by rfl) B.tuple cx (aa (fV (N':=["name","fields","deed"]) (ix:=[none,none,none]) (sc0:=aj oF) (N:=["self","width","cells","depth","places","marks","gate","kinds_known"]) rfl (by decide +kernel) (ft (pv 7)) (fun C' cl s H fp=>dR (K:=K) (n:=3) rfl rfl (aA (az (i:=0) Cl rfl (Or.inl rfl) (.inr rfl)) (aA (az (i:=1) Cl rfl (Or.inl rfl) (.inr rfl)) (aA (az (i:=2) Cl rfl (Or.inl rfl) (.inr rfl)) bi)))) (fun _ _ _ _ _=>fU) (fun C' cl s H fp=>pv 0)) ab)) rfl)
   (ah (eu (pv 0) (pv 7) rfl))))))))),?_⟩
  have b0:K0 x H H:=K0.refl _ _
  refine ⟨_,rfl,_,rfl,x,C,dx,_,rfl,hx,T.cl,T.na "width" (by decide +kernel),(by show 0 < 1000;decide),?_⟩
  have e1:(aI H x (.ins C dx (aP "width" vw []))) x=some (.ins C dx (aP "width" vw [])):=ac
  have b1:K0 x H (aI H x (.ins C dx (aP "width" vw []))):=fun b o e nb=>by rw [aw nb];exact b0 _ _ e nb
  generalize aI H x (.ins C dx (aP "width" vw []))=H1 at *
  refine ⟨_,rfl,_,rfl,x,C,dx,_,rfl,e1,T.cl,T.na "cells" (by decide +kernel),(by show 1 < 1000;decide),?_⟩
  have e2:(aI H1 x (.ins C dx (aP "cells" vc (aP "width" vw [])))) x=some (.ins C dx (aP "cells" vc (aP "width" vw []))):=ac
  have b2:K0 x H (aI H1 x (.ins C dx (aP "cells" vc (aP "width" vw [])))):=fun b o e nb=>by rw [aw nb];exact b1 _ _ e nb
  generalize aI H1 x (.ins C dx (aP "cells" vc (aP "width" vw [])))=H2 at *
  refine ⟨_,rfl,_,rfl,x,C,dx,_,rfl,e2,T.cl,T.na "depth" (by decide +kernel),(by show 2 < 1000;decide),?_⟩
  have e3:(aI H2 x (.ins C dx (aP "depth" vd (aP "cells" vc (aP "width" vw []))))) x=some (.ins C dx (aP "depth" vd (aP "cells" vc (aP "width" vw [])))):=ac
  have b3:K0 x H (aI H2 x (.ins C dx (aP "depth" vd (aP "cells" vc (aP "width" vw []))))):=fun b o e nb=>by rw [aw nb];exact b2 _ _ e nb
  generalize aI H2 x (.ins C dx (aP "depth" vd (aP "cells" vc (aP "width" vw []))))=H3 at *
  refine ⟨_,rfl,_,rfl,x,C,dx,_,rfl,e3,T.cl,T.na "places" (by decide +kernel),(by show 3 < 1000;decide),?_⟩
  have e4:(aI H3 x (.ins C dx (aP "places" vp (aP "depth" vd (aP "cells" vc (aP "width" vw [])))))) x=some (.ins C dx (aP "places" vp (aP "depth" vd (aP "cells" vc (aP "width" vw []))))):=ac
  have b4:K0 x H (aI H3 x (.ins C dx (aP "places" vp (aP "depth" vd (aP "cells" vc (aP "width" vw [])))))):=fun b o e nb=>by rw [aw nb];exact b3 _ _ e nb
  generalize aI H3 x (.ins C dx (aP "places" vp (aP "depth" vd (aP "cells" vc (aP "width" vw [])))))=H4 at *
  refine ⟨_,rfl,_,rfl,x,C,dx,_,rfl,e4,T.cl,T.na "marks" (by decide +kernel),(by show 4 < 1000;decide),?_⟩
  have e5:(aI H4 x (.ins C dx (aP "marks" vm (aP "places" vp (aP "depth" vd (aP "cells" vc (aP "width" vw []))))))) x=some (.ins C dx (aP "marks" vm (aP "places" vp (aP "depth" vd (aP "cells" vc (aP "width" vw [])))))):=ac
  have b5:K0 x H (aI H4 x (.ins C dx (aP "marks" vm (aP "places" vp (aP "depth" vd (aP "cells" vc (aP "width" vw []))))))):=fun b o e nb=>by rw [aw nb];exact b4 _ _ e nb
  generalize aI H4 x (.ins C dx (aP "marks" vm (aP "places" vp (aP "depth" vd (aP "cells" vc (aP "width" vw []))))))=H5 at *
  refine ⟨_,rfl,_,rfl,x,C,dx,_,rfl,e5,T.cl,T.na "gate" (by decide +kernel),(by show 5 < 1000;decide),?_⟩
  have e6:(aI H5 x (.ins C dx (aP "gate" vg (aP "marks" vm (aP "places" vp (aP "depth" vd (aP "cells" vc (aP "width" vw [])))))))) x=some (.ins C dx (aP "gate" vg (aP "marks" vm (aP "places" vp (aP "depth" vd (aP "cells" vc (aP "width" vw []))))))):=ac
  have b6:K0 x H (aI H5 x (.ins C dx (aP "gate" vg (aP "marks" vm (aP "places" vp (aP "depth" vd (aP "cells" vc (aP "width" vw [])))))))):=fun b o e nb=>by rw [aw nb];exact b5 _ _ e nb
  generalize aI H5 x (.ins C dx (aP "gate" vg (aP "marks" vm (aP "places" vp (aP "depth" vd (aP "cells" vc (aP "width" vw [])))))))=H6 at *
  have pkx:pk≠x:=by
   rintro rfl
   rw [hk] at hx
   cases hx
  have hk6:=b6 _ _ hk pkx
  have k6:K5 H H6:=b6.kt hx
  have hp6:=bS (fun _ _ h=>Ma.kt k6 h) hp
  have lk:=hp.length
  refine ⟨_,rfl,pk,rfl,⟨_,KP.of hk6⟩,?_⟩
  refine ww (K:=K) (a:=pk) (xs:=us) (fun i ys H'=>H'=H6/\ys=ai ((IZ.take i).map Kn.name)) ⟨rfl,rfl⟩ (fun i ys H' hi ⟨a1,a2⟩=>by
    subst a1 a2
    refine ⟨KP.of hk6,?_⟩
    unfold ai
    rw [GC,GC,GG]
    lia) ?_ ?_
  ·rintro i z ys H' hz ⟨rfl,rfl⟩
   obtain ⟨y,hy,p,tf,bb,fu,rfl,hpp,_⟩:=gr hp6 hz
   have Je:i < us.length:=(GA.mp hz).1
   refine ⟨p,_,rfl,KP.of hpp,rfl,_,_,rfl,_,_,rfl,_,_,rfl,rfl,trivial,fW ?_⟩
   refine ⟨_,rfl,Nx.mk Je ⟨rfl,?_⟩⟩
   rw [GX,hy]
   unfold ai
   simp
  ·rintro ys H' ⟨rfl,rfl⟩ D hD
   rw [lk,GV]
   have s7:=ad (o:=.lst (ai (IZ.map Kn.name))) hD
   have e7:(aI H' D (.lst (ai (IZ.map Kn.name)))) D=some (.lst (ai (IZ.map Kn.name))):=ac
   have x7:=s7 _ _ e6
   generalize aI H' D (.lst (ai (IZ.map Kn.name)))=H7 at *
   refine ⟨D,_,rfl,.inl ⟨KW.of e7,fun pn npn=>?_⟩⟩
   have s8:=ad (o:=.tup (ai (IZ.map Kn.name))) npn
   have e8:(aI H7 pn (.tup (ai (IZ.map Kn.name)))) pn=some (.tup (ai (IZ.map Kn.name))):=ac
   have x8:=s8 _ _ x7
   have b8:=(b6.same s7).same s8
   have nH:H pn=none:=iV (b6.same s7) x7 npn
   generalize aI H7 pn (.tup (ai (IZ.map Kn.name)))=H8 at *
   have pnx:pn≠x:=by
    rintro rfl
    rw [nH] at hx
    cases hx
   refine ⟨_,rfl,x,C,dx,_,rfl,x8,T.cl,T.na "kinds" (by decide +kernel),(by show 6 < 1000;decide),?_⟩
   refine ⟨_,rfl,_,rfl,x,C,dx,_,rfl,ac,T.cl,T.na "kinds_known" (by decide +kernel),(by show 7 < 1000;decide),?_⟩
   refine q pn _ ?_ nH ?_ ?_
   ·rw [ac]
    rfl
   ·rw [aw pnx,aw pnx]
    exact e8
   ·intro b o e nb
    rw [aw nb,aw nb]
    exact b8 _ _ e nb
def fO (st:Str) (l:List Str):List Ne:=l.mapIdx fun i z=>(z,st,false,i)
theorem gu (st:Str) (l:List Str) (i:Nat):(fO st l)[i]?=l[i]?.map fun z=>(z,st,false,i):=by unfold fO;rw [List.getElem?_mapIdx]
theorem cC (st:Str) (l:List Str):(fO st l).length=l.length:=by unfold fO;simp
def eW (D:Fm):List Ne:=fO "place" D.places++fO "mark" D.marks
def eL (D:Fm):V:=match D.gates with
 | []=>.non
 | z::_=>.str z
structure mC (D:Fm):Prop where
 nd:((eW D).map (·.1)).Nodup
 gt:∀ z∈D.gates,z∈D.marks
 g1:D.gates.length<=1
 kn:(D.kinds.map Kn.name).Nodup
 kf:∀ x∈D.kinds,Ci (eW D) x
 p4:D.places.length<=4
 m3:D.marks.length<=3
 k8:D.kinds.length<=8
inductive Ly (C:Addr) (H:Hp) (v:V) (D:Fm):Prop
 | mk (a dx pp pm pn pk us:_):v=.ref a->H a=some (.ins C dx (Ck (.int D.width) (.int D.cells) (.int D.depth) (.ref pp) (.ref pm) (eL D) pn pk))->H pp=some (.tup (ai D.places))->H pm=some (.tup (ai D.marks))->H pn=some (.tup (ai (D.kinds.map Kn.name)))->H pk=some (.tup us)->Paired (Ma H) us D.kinds->Ly C H v D
inductive Cm (C:Addr) (vs:List V) (H:Hp) (Q:VK) (Z3:XK):Prop
 | mk (u D:_):vs=[u]->xb H u D->mC D->(∀ v H',KO H H'->Ly C H' v D->Q v H')->Cm C vs H Q Z3
theorem xm {A B:List Ne} {x:Ne} (h:((A++x::B).map (·.1)).Nodup):x.1∉A.map (·.1):=by
 rw [GK,GO] at h
 intro hm
 exact (ID.mp h).2.2 _ hm _ Gz rfl
theorem Lw:ay ["form","width","cells","depth","places","marks","gates","kinds","names","i","name","gate","kinds_known"] ["form"] (aj fC):=cH (by decide +kernel)
theorem Em {n:Nat} (F:K7 K "table_of_form" "table_of_form" fC f fd) (B:Bl mg) (B3:zF mg) (MK:Mk K C fi) (mgT:mg "Table"=some (.ref C)) (IN:KU P w K mg base bY 1 fi fdi ["self","width","cells","depth","places","marks","gate","kinds_known"] (oG C)) (bI:Ld K fdi ["self","width","cells","depth","places","marks","gate","kinds_known"] [])
  (AN:Fn P w K mg base "add_name" 1 ["names","name","sort","sel"] gN) (NK:Fn P w K mg base "need_known" 1 ["names","name","sorts"] (cO K)) (KN:Fn P w K mg base "kinds_named" n ["names","kinds"] Cj) (hn:3<=n):KU P w K mg base bY (n+1) f fd ["form"] (Cm C):=by
 have ZZ:=Lw
 walk_at "o"
 ·obtain ⟨u,D,rfl,⟨p,pp,pm,pg,pk,us,rfl,hp,hpp,hpm,hpg,hpk,Ja⟩,hD,q⟩:=h
  have IS:KY 1 _:=hr.mono (by lia)
  have IU:KY 2 _:=hr.mono (by lia)
  have sz:(1000:Nat)<=sizeLine:=by decide
  refine ⟨_,ae (fT (pv 0) (cB rfl (aA (az (i:=1) Lw.nd rfl (Or.inl rfl)) (aA (az (i:=2) Lw.nd rfl (Or.inl rfl)) (aA (az (i:=3) Lw.nd rfl (Or.inl rfl)) (aA (az (i:=4) Lw.nd rfl (Or.inl rfl)) (aA (az (i:=5) Lw.nd rfl (Or.inl rfl)) (aA (az (i:=6) Lw.nd rfl (Or.inl rfl)) (aA (az (i:=7) Lw.nd rfl (Or.inl rfl)) bi)))))))))
   (ae (ap (i:=8) Lw.nd rfl (Or.inl rfl) qd)
   (bz (fun σ H'=>∃ (d:Addr) (v9 v10 v11 v12:Option V),σ=[some (.ref p),some (.int D.width),some (.int D.cells),some (.int D.depth),some (.ref pp),some (.ref pm),some (.ref pg),some (.ref pk),some (.ref d),v9,v10,v11,v12]/\H d=none/\KO H H'/\LX H' d (fO "place" D.places)) (cr PassesOwn.never rfl (fe rfl B3.enumerate (aa (pv 4) ab)) (cB rfl (aA (az (i:=9) Lw.nd rfl (Or.inl rfl)) (aA (az (i:=10) Lw.nd rfl (Or.inl rfl)) bi))) (ah (aN (am AN IS rfl (aa (pv 8) (aa (pv 10) (aa af (aa (aC (aa af (aa (pv 9) ab))) ab))))))))
   (bz (fun σ H'=>∃ (d:Addr) (v9 v10 v11 v12:Option V),σ=[some (.ref p),some (.int D.width),some (.int D.cells),some (.int D.depth),some (.ref pp),some (.ref pm),some (.ref pg),some (.ref pk),some (.ref d),v9,v10,v11,v12]/\H d=none/\KO H H'/\LX H' d (eW D)) (cr PassesOwn.never rfl (fe rfl B3.enumerate (aa (pv 5) ab)) (cB rfl (aA (az (i:=9) Lw.nd rfl (Or.inl rfl)) (aA (az (i:=10) Lw.nd rfl (Or.inl rfl)) bi))) (ah (aN (am AN IS rfl (aa (pv 8) (aa (pv 10) (aa af (aa (aC (aa af (aa (pv 9) ab))) ab))))))))
   (ae (ap (i:=11) Lw.nd rfl (Or.inl rfl) kI)
   (bz (fun σ H'=>∃ (d:Addr) (v9 v10 v11 v12:Option V),σ=[some (.ref p),some (.int D.width),some (.int D.cells),some (.int D.depth),some (.ref pp),some (.ref pm),some (.ref pg),some (.ref pk),some (.ref d),v9,v10,v11,v12]/\v11=some (eL D)/\H d=none/\KO H H'/\LX H' d (eW D)) (cr PassesOwn.never rfl (ft (pv 6)) (az (i:=10) Lw.nd rfl (Or.inl rfl)) (ae (aN (am NK IS rfl (aa (pv 8) (aa (pv 10) (aa (aC (aa af ab)) ab))))) (ah (ap (i:=11) Lw.nd rfl (Or.inl rfl) (pv 10)))))
   (ae (ap (i:=12) Lw.nd rfl (Or.inl rfl) (am KN hr rfl (aa (pv 8) (aa (pv 7) ab))))
   (ah (ao (sT MK IN IU rfl mgT bI .nil kO (aa (pv 1) (aa (pv 2) (aa (pv 3) (aa (pv 4) (aa (pv 5) (aa (pv 11) (aa (pv 12) ab)))))))))))))))),?_⟩
  refine ⟨_,rfl,p,_,rfl,KP.of hp,rfl,_,_,rfl,_,_,rfl,_,_,rfl,_,_,rfl,_,_,rfl,_,_,rfl,_,_,rfl,rfl,?_⟩
  refine fun d nd=>?_
  have s1:=ad (o:=.dK []) nd
  have I1:LX (aI H d (.dK [])) d []:=⟨[],ac,.nil⟩
  generalize aI H d (.dK ([]:List (cE×V)))=H1 at *
  refine ⟨?_,?_⟩
  ·rintro σ H2 ⟨d,v9,v10,v11,v12,rfl,nd,s2,I2⟩
   refine ⟨?_,?_⟩
   ·rintro σ H3 ⟨d,v9,v10,v11,v12,rfl,nd,s3,I3⟩
    refine ⟨?_,?_⟩
    ·rintro σ H4 ⟨d,v9,v10,v11,v12,rfl,rfl,nd,s4,I4⟩
     refine ⟨_,rfl,_,rfl,d,pk,us,eW D,D.kinds,rfl,I4,s4 _ _ hpk,bS (fun _ _ h=>LI.kt (al s4) h) Ja,hD.kn,hD.kf,?_,hD.k8,fun p5 us5 H5 s5 n5 e5 k5=>?_⟩
     ·unfold eW
      rw [Gy,cC,cC]
      have:=hD.p4
      have:=hD.m3
      lia
     have s05:=s4.trans s5
     refine ⟨_,rfl,_,rfl,_,rfl,_,rfl,_,rfl,_,rfl,_,rfl,fun x dx nx ndx ne=>?_⟩
     refine ⟨x,dx,_,_,_,_,_,_,p5,us5,D.kinds,rfl,ac,(bK nx (ad ndx)) _ _ e5,bS (fun _ _ h=>Ma.kt (al (bK nx (ad ndx))) h) k5,hD.k8,fun pn H7 e7 npn epn b7=>⟨rfl,?_⟩⟩
     have s57:KO H5 H7:=fg nx (bK nx (ad ndx)) b7
     have s07:=s05.trans s57
     exact q _ _ s07 ⟨x,dx,pp,pm,pn,p5,us5,rfl,e7,s07 _ _ hpp,s07 _ _ hpm,epn,s57 _ _ e5,bS (fun _ _ h=>Ma.kt (al s57) h) k5⟩
    ·refine ⟨_,rfl,pg,rfl,⟨_,KP.of (s3 _ _ hpg)⟩,?_⟩
     refine gD (K:=K) (a:=pg) (xs:=ai D.gates) (fun i σ H'=>∃ (v9 v10 v11 v12:Option V),σ=[some (.ref p),some (.int D.width),some (.int D.cells),some (.int D.depth),some (.ref pp),some (.ref pm),some (.ref pg),some (.ref pk),some (.ref d),v9,v10,v11,v12]/\v11=some (if i=0 then .non else eL D)/\KO H H'/\LX H' d (eW D)) ⟨_,_,_,_,rfl,rfl,s3,I3⟩ (fun i σ H' _ ⟨_,_,_,_,_,_,s',_⟩=>KP.of (s' _ _ hpg)) ?_ ?_
     ·rintro i x σ Ha hx ⟨w9,w10,w11,w12,rfl,rfl,sa,Ia⟩
      have hg1:=hD.g1
      have hgt:=hD.gt
      have hlt0:i < (ai D.gates).length:=(GA.mp hx).1
      unfold ai at hx hlt0
      rw [GC] at hlt0
      cases hgs:D.gates with
      | nil=>rw [hgs] at hlt0;simp at hlt0
      | cons z r=>
       rw [hgs] at hx hlt0 hg1 hgt
       have hi0:i=0:=by simp only [GB] at hg1 hlt0;lia
       subst hi0
       have exz:x=.str z:=by simpa using hx.symm
       subst exz
       have hzm:=hgt z Gz
       refine ⟨_,rfl,_,rfl,aW,fun t nt=>?_⟩
       have sb:=ad (o:=.tup [.str "mark"]) nt
       obtain ⟨gi,hgi⟩:=Im hzm
       refine ⟨d,eW D,z,"mark",t,["mark"],false,gi,rfl,Ia.same sb,?_,hD.nd,.inr (KP.of ac),by simp,fun qq sl Hb sc eb _=>?_⟩
       ·exact GN _ (GM (by rw [gu,hgi];rfl))
       refine ⟨_,rfl,_,_,_,_,rfl,?_,(sa.trans sb).trans sc,(Ia.same sb).same sc⟩
       rw [if_neg (by lia)]
       unfold eL
       rw [hgs]
     ·rintro σ Ha ⟨w9,w10,w11,w12,rfl,rfl,sa,Ia⟩
      refine ⟨d,_,_,_,_,rfl,?_,nd,sa,Ia⟩
      have ell:(ai D.gates).length=D.gates.length:=by unfold ai;rw [GC]
      rw [ell]
      cases hgs:D.gates with
      | nil=>
       unfold eL
       rw [hgs]
       rfl
      | cons z r=>rw [if_neg (by simp)]
   ·refine ⟨_,rfl,pm,rfl,⟨_,KP.of (s2 _ _ hpm)⟩,?_⟩
    refine dY (K:=K) (l:=pm) (xs:=ai D.marks) (fun i σ H'=>∃ (v9 v10 v11 v12:Option V),σ=[some (.ref p),some (.int D.width),some (.int D.cells),some (.int D.depth),some (.ref pp),some (.ref pm),some (.ref pg),some (.ref pk),some (.ref d),v9,v10,v11,v12]/\KO H H'/\LX H' d (fO "place" D.places++(fO "mark" D.marks).take i)) ⟨_,_,_,_,rfl,s2,by simpa using I2⟩ (fun i σ H' _ ⟨_,_,_,_,_,s',_⟩=>KP.of (s' _ _ hpm)) ?_ ?_
    ·rintro i x σ Ha T1 hx nT ⟨w9,w10,w11,w12,rfl,sa,Ia⟩
     obtain ⟨z,hz,rfl⟩:∃ z,D.marks[i]?=some z/\x=.str z:=by
      unfold ai at hx
      rw [GY] at hx
      cases hh:D.marks[i]? with
      | none=>rw [hh] at hx;cases hx
      | some z=>rw [hh] at hx;exact ⟨z,rfl,(Hd hx).symm⟩
     have Je:i < D.marks.length:=(GA.mp hz).1
     have hzi:D.marks[i]=z:=(GA.mp hz).2
     have sb:=ad (o:=.tup [.int (i:Int),.str z]) nT
     refine ⟨T1,_,rfl,KP.of ac,rfl,_,_,rfl,_,_,rfl,rfl,?_⟩
     refine ⟨_,rfl,_,rfl,_,rfl,aW,fun t nt=>?_⟩
     have sc:=ad (o:=.tup [.str "is",.int (i:Int)]) nt
     have sac:=sa.trans (sb.trans sc)
     have hz':(fO "mark" D.marks)[i]?=some (z,("mark":Str),false,i):=by rw [gu,hz];rfl
     have hlt':i < (fO "mark" D.marks).length:=by rw [cC];exact Je
     have etk:(fO "mark" D.marks).take (i+1)=(fO "mark" D.marks).take i++[(z,("mark":Str),false,i)]:=by rw [GX,hz'];rfl
     refine ⟨d,_,z,"mark",t,false,i,rfl,Ia.same (sb.trans sc),ac,?_,?_,fun Hb Ib bb=>⟨_,_,_,_,rfl,fg nd sac bb,?_⟩⟩
     ·have hh:=hD.nd
      have e5:eW D=(fO "place" D.places++(fO "mark" D.marks).take i)++((z,("mark":Str),false,i)::(fO "mark" D.marks).drop (i+1)):=by
       have:=(Hx i (fO "mark" D.marks)).symm
       rw [Hr hlt',(GA.mp hz').2] at this
       unfold eW
       rw [G1]
       exact congrArg (fO "place" D.places++·) this
      rw [e5] at hh
      exact xm hh
     ·simp only [Gy,cC,GG,GL]
      have:=hD.p4
      have:=hD.m3
      lia
     ·rw [etk,<-G1]
      exact Ib
    ·rintro σ Ha ⟨w9,w10,w11,w12,rfl,sa,Ia⟩
     have ell:(ai D.marks).length=D.marks.length:=by unfold ai;rw [GC]
     rw [ell,<-cC "mark",GV] at Ia
     exact ⟨d,_,_,_,_,rfl,nd,sa,Ia⟩
  ·refine ⟨_,rfl,pp,rfl,⟨_,KP.of (s1 _ _ hpp)⟩,?_⟩
   refine dY (K:=K) (l:=pp) (xs:=ai D.places) (fun i σ H'=>∃ (v9 v10 v11 v12:Option V),σ=[some (.ref p),some (.int D.width),some (.int D.cells),some (.int D.depth),some (.ref pp),some (.ref pm),some (.ref pg),some (.ref pk),some (.ref d),v9,v10,v11,v12]/\KO H H'/\LX H' d ([]++(fO "place" D.places).take i)) ⟨_,_,_,_,rfl,s1,by simpa using I1⟩ (fun i σ H' _ ⟨_,_,_,_,_,s',_⟩=>KP.of (s' _ _ hpp)) ?_ ?_
   ·rintro i x σ Ha T1 hx nT ⟨w9,w10,w11,w12,rfl,sa,Ia⟩
    obtain ⟨z,hz,rfl⟩:∃ z,D.places[i]?=some z/\x=.str z:=by
     unfold ai at hx
     rw [GY] at hx
     cases hh:D.places[i]? with
     | none=>rw [hh] at hx;cases hx
     | some z=>rw [hh] at hx;exact ⟨z,rfl,(Hd hx).symm⟩
    have Je:i < D.places.length:=(GA.mp hz).1
    have hzi:D.places[i]=z:=(GA.mp hz).2
    have sb:=ad (o:=.tup [.int (i:Int),.str z]) nT
    refine ⟨T1,_,rfl,KP.of ac,rfl,_,_,rfl,_,_,rfl,rfl,?_⟩
    refine ⟨_,rfl,_,rfl,_,rfl,aW,fun t nt=>?_⟩
    have sc:=ad (o:=.tup [.str "is",.int (i:Int)]) nt
    have sac:=sa.trans (sb.trans sc)
    have hz':(fO "place" D.places)[i]?=some (z,("place":Str),false,i):=by rw [gu,hz];rfl
    have hlt':i < (fO "place" D.places).length:=by rw [cC];exact Je
    have etk:(fO "place" D.places).take (i+1)=(fO "place" D.places).take i++[(z,("place":Str),false,i)]:=by rw [GX,hz'];rfl
    refine ⟨d,_,z,"place",t,false,i,rfl,Ia.same (sb.trans sc),ac,?_,?_,fun Hb Ib bb=>⟨_,_,_,_,rfl,fg nd sac bb,?_⟩⟩
    ·have hh:=hD.nd
     have e5:eW D=([]++(fO "place" D.places).take i)++((z,("place":Str),false,i)::(fO "place" D.places).drop (i+1)++fO "mark" D.marks):=by
      have:=(Hx i (fO "place" D.places)).symm
      rw [Hr hlt',(GA.mp hz').2] at this
      unfold eW
      rw [Ig,<-G1]
      exact congrArg (·++fO "mark" D.marks) this
     rw [e5] at hh
     exact xm hh
    ·simp only [Gy,cC,GG,GL]
     have:=hD.p4
     have:=hD.m3
     lia
    ·rw [etk,<-G1]
     exact Ib
   ·rintro σ Ha ⟨w9,w10,w11,w12,rfl,sa,Ia⟩
    have ell:(ai D.places).length=D.places.length:=by unfold ai;rw [GC]
    rw [ell,<-cC "place",GV] at Ia
    exact ⟨d,_,_,_,_,rfl,nd,sa,by simpa using Ia⟩
end L3
namespace PySem
open Sem (wp)
section
open PySem.SeqAt
open PySem.AutoSeq1 (wpAny_loadPart')
open PySem.MeetsSeq PySem.MeetsSeq2 PySem.MeetsSeq3
theorem LW {M:Model} {A:Around} {E:Value->Shared->Prop} {s:Shared} {β:Type} (f:Nat->β->Sem (ForInStep β)) (I:List Nat->β->Shared->Prop) (Q:β->Shared->Prop)
  (turn:∀ (x:Nat) (rest:List Nat) (b:β) (s:Shared),I (x::rest) b s->wpAny M A (f x b) (fun r s'=>match r with|.yield b'=>I rest b' s'|.done b'=>Q b' s') E s)
  (fin:∀ (b:β) (s:Shared),I [] b s->Q b s) (r:Std.Legacy.Range) (b:β) (h:I (List.range' r.start r.size r.step) b s):wpAny M A (forIn r b f) Q E s:=by
 rw [Std.Legacy.Range.forIn_eq_forIn_range']
 exact wpAny_forIn_list f I Q turn fin _ b h
theorem Mg (l:Addr) (Jf:Array Value) (n:Nat) (dd:Option Addr) (sl:Array (Option Value)) (x:Value) (e:Value->Bool) (j:Nat) (hj:j < Jf.size) (he:e Jf[j]=true) (hn:∀ (m:Nat) (hm:m < Jf.size),m < j->e Jf[m]=false) :
  Meets (Builtin.«tuple.index» ⟨[.ref l,x],[]⟩) (fun A R s=>s.heap.get? l=some { cls:=.type "tuple",dict:=dd,data:=.seq Jf n,slots:=sl }/\(∀ y∈Jf,EqAt A.in1 s y x (e y))/\∀ t k,R (.ok (.ret (.int j t))) { s with toks:=k }):=
 .of_wp fun prog w A R s h=>by
  obtain ⟨hp,g,d,tk,os⟩:=s;obtain ⟨hl,hb,h⟩:=h
  wp_walk using wpAny_loadPart' hl,LW _ (fun rest b s'=>b.1=none/\s'=⟨hp,g,d,tk,os⟩/\∃ k,rest=List.range' k (Jf.size - k)/\k<=j) _
  case turn=>
   rintro i rest b s' ⟨hb',rfl,k,hr,hk⟩
   have hz:Jf.size - k=(Jf.size - (k+1))+1:=by lia
   rw [hz,List.range'_succ] at hr
   injection hr with h1 h2
   subst h1
   have hki:i < Jf.size:=by lia
   have hg:Jf[i]?=some Jf[i]:=by simp [hki]
   rw [hg]
   have hq:=hb Jf[i] (by simp)
   refine wpAny_bind (hq prog w _ _ ?_)
   by_cases hij:i=j
   ·subst hij
    rw [he]
    wp_walk
    exact ⟨_,rfl,h _ _⟩
   ·rw [hn i hki (by lia)]
    wp_walk
    exact ⟨rfl,rfl,i+1,h2,by lia⟩
  case fin=>
   rintro b s' ⟨hb',rfl,k,hr,hk⟩
   have hz:Jf.size - k=(Jf.size - (k+1))+1:=by lia
   rw [hz,List.range'_succ] at hr
   cases hr
  case h=>
   refine ⟨rfl,rfl,0,?_,Hj _⟩
   simp [Std.Legacy.Range.size]
end
end PySem
namespace L2
open PySem PySem.Spec PyProof.Rows
section
variable {X:Cx}
theorem qr:Dv X "tuple.index" (fun x xs H Q=>∃ (p:Addr) (zs:List Str) (z:Str) (j:Nat),x=.ref p/\xs=[.str z]/\KP X.K H p (zs.map V.str)/\zs[j]?=some z/\(∀ m,m < j->zs[m]?≠some z)/\Q (.int (j:Nat)) H):=by
 intro IP s σ H x xs v us Q I rx rv h
 obtain ⟨p,zs,z,j,rfl,rfl,hS,hj,hn,q⟩:=h
 cases rx
 obtain ⟨u,rfl,ru⟩:=rv.one
 obtain ⟨its,r,pl,hz⟩:=I.tuple hS
 have hfl:(zs.map V.str).all gY=true:=by
  rw [List.all_map]
  exact Ht.mpr fun _ _=>rfl
 have IQ:=r.length
 rw [GC] at IQ
 have hjl:j < zs.length:=(GA.mp hj).1
 have ev:∀ m (hm:m < its.toArray.size),pO (.str z) its.toArray[m]=decide (zs[m]?=some z):=fun m hm=>by
  have hm':m < zs.length:=by rw [IQ];simpa using hm
  obtain ⟨w,ew,rw'⟩:=r.get (i:=m) (x:=.str zs[m]) (by simp [hm'])
  have e2:its.toArray[m]=w:=by
   have:=(GA.mp ew).2
   simpa using this
  rw [e2,qX rw' rfl,GJ hm']
  show uG (.str zs[m]) (.str z)=_
  by_cases hh:zs[m]=z
  ·simp [hh,uG]
  ·simp [hh,uG]
 obtain ⟨o,there,CS,n,isD⟩:=pl
 cases o with
 | mk oc od odt osl=>
  dsimp only at CS isD
  subst CS isD
  refine call_meets F.slot_tuple_index ⟨_,there,rfl⟩ F.entry_tuple_index (F.args_tuple_index_2 _ _) (Mg p its.toArray n od osl u (pO (.str z)) j (by simpa [<-IQ] using hjl) ?_ ?_) ⟨there,fun w hw=>fc ru rfl r hfl w (by simpa using hw),fun t k=>⟨.int j,H,I.tok _,⟨t,rfl⟩,q⟩⟩
  ·rw [ev,hj]
   simp
  ·intro m hm hmj
   rw [ev]
   simpa using hn m hmj
end
end L2
namespace PySem
open Sem (wp)
open PySem.Spec PyProof.Rows
end PySem
namespace L2
open PySem PySem.Spec PyProof.Rows
section
variable {X:Cx}
theorem qt (c:Nat):∀ (n:Nat) (acc:Array Nat),(List.foldl (fun (x1 x2:Array Nat)=>x1++x2) acc (List.replicate n #[c]))=acc++(List.replicate n c).toArray
 | 0,acc=>by simp
 | n+1,acc=>by
  rw [List.replicate_succ,List.foldl_cons,qt c n]
  apply Array.ext'
  simp [List.replicate_succ]
theorem zH:fR X (binaryOp .Mult) (fun x y H Q=>∃ (c n:Nat),x=.str (S [c])/\y=.int n/\n<=1000/\Q (.str (S (List.replicate n c))) H):=by
 intro IP s σ H x y v u Q I rx ry h
 obtain ⟨c,n,rfl,rfl,hn,q⟩:=h
 obtain ⟨t,rfl⟩:=rx
 obtain ⟨t2,rfl⟩:=ry
 refine PySem.P.mul_str ?_ ?_ ?_ ?_
 ·simp;lia
 ·intro _ _
  have:(S [c]).length=1:=rfl
  rw [this]
  intro hgt
  have:(1:Int)<=(2 ^ 63 - 1) / (n:Int):=by
   rw [Int.le_ediv_iff_mul_le (by lia)]
   lia
  lia
 ·intro _ _
  have:(S [c]).length=1:=rfl
  rw [this]
  unfold Builtin.Str.tooLong
  have sz:(1000:Nat)<=sizeLine:=by decide
  simp
  lia
 ·have fin:∀ (z:Str) (t:Tok) (k:Nat),z=S (List.replicate n c)->EP X IP σ Q (.str z t) { s with toks:=k }:=fun z t k e=>by
   subst e
   exact ⟨.str (S (List.replicate n c)),H,I.tok k,⟨t,rfl⟩,q⟩
  have fin2:∀ (z:Str),z=S (List.replicate n c)->(Made.str z).post (EP X IP σ Q) s:=fun z e=>by
   refine ⟨?_,fin z _ _ e⟩
   subst e
   have sz:(1000:Nat)<=sizeLine:=by decide
   rw [aG,Ii]
   lia
  by_cases h0:(n:Int) < 1
  ·rw [if_pos h0]
   refine fin2 _ ?_
   rw [show n=0 by lia]
   rfl
  ·rw [if_neg h0]
   by_cases h1:((n:Int) == 1 || (S [c]).length == 0)=true
   ·rw [if_pos h1]
    have:n=1:=by
     have e:(S [c]).length=1:=rfl
     rw [e] at h1
     simp at h1
     lia
    subst this
    exact fin (S [c]) t s.toks rfl
   ·rw [if_neg h1]
    refine fin2 _ ?_
    have:(S [c]).cps=#[c]:=rfl
    rw [this,qt]
    simp [S]
end
section
variable {X:Cx}
inductive AZ (r:V->List V->Hp->VK->Prop) (t:TA) (σ:St) (Q:VK) (x:V) (H1:Hp):Prop
 | mk (p xs:_):x=.ref p->H1 p=some (.tup xs)->(t σ H1 fun xs H2=>r x xs H2 Q)->AZ r t σ Q x H1
def FN (r:V->List V->Hp->VK->Prop) (to:TE) (t:TA):TE:=fun σ H Q=>to σ H fun x H1=>AZ r t σ Q x H1
variable {o e:Expr} {es:List Expr} {to:TE} {t:TA} {name:Str} {apos cpos:Pos} {id:String} {r:V->List V->Hp->VK->Prop}
theorem Cn (pa:PlainAttrs "tuple") (slot:Slot "tuple" name id) (hty:typeOf (.builtin id)=pure (.type "method_descriptor")) (hm:Dv X id r) (ho:PE X o to) (ha:PA X (e::es) t)
  (hbase:attributeBase o name X.env (eval o X.env)=eval o X.env:=by rfl)
  (hfew:((backTo cpos (starEach (e::es) X.env)).all (fun x=>!x.1) && (backToKw cpos (keywordEach [] X.env)).all (fun x=>x.1.isSome)
   && decide ((e::es).length+([]:List Keyword).length+(if ([]:List Keyword).isEmpty then 0 else 1) < 30))=true:=by rfl)
  (hline:(apos.endLine == cpos.line)=true:=by rfl) (hs:starEach (e::es) X.env=(false,eval e X.env)::starEach es X.env:=by rfl) (hplain:(backTo cpos (starEach es X.env)).any (·.1)=false:=by rfl) :
  PE X (.Call (.Attribute o name apos) (e::es) [] cpos) (FN r to t):=by
 refine ⟨?_⟩
 intro IP s σ H Q I h
 refine wpAny_Call_method_late hbase hfew hline rfl (bM (ho IP s σ H _ I h) fun v s1 ⟨x,H1,I1,r1,p,xs,ex,hp,q1⟩=>?_)
 subst ex
 cases r1
 obtain ⟨_,its,rv,ob,g1,g2,n,g3⟩:=(show K6 X.prog X.w H1 s1.heap p (.tup xs) from I1.hok p _ hp)
 have gc:=(Prod.mk.inj g2).1
 have gd:=(Prod.mk.inj g2).2
 refine ⟨"tuple",id,pa,slot,hty,⟨ob,g1,gc⟩,fun a e=>?_,?_⟩
 ·cases e
  exact ⟨ob,g1,gd⟩
 have hA:=ha cpos IP s1 σ H1 _ I1 q1
 rw [hs] at hA ⊢
 refine Ie (by show (false || (backTo cpos (starEach es X.env)).any (·.1))=false;rw [hplain]<;>rfl) (Il ?_)
 exact bM hA fun us s2 ⟨vs,H2,I2,r2,q2⟩=>hm IP s2 σ H2 (.ref p) vs _ us Q I2 rfl r2 q2
end
end L2
namespace L3
open PySem L2
inductive zI (C:Addr) (xs:List V) (H:Hp) (Q:VK) (Z3:XK):Prop
 | mk (l:List Nat) (D:Fm):xs=[.str (S l)]->l.length<=20000->(TK.toks l).length<=1500->oA ((TK.toks l).map S) D->mC D->(∀ v H',KO H H'->Ly C H' v D->Q v H')->zI C xs H Q Z3
theorem zJ (ts:List (List Nat)):vs ts=ai (ts.map S):=by
 unfold vs ai
 rw [Hz]
 rfl
variable {P:Program} {w:World} {K:ZF} {mg:Str->Option Value} {base:Heap} {C fi aS aE aF aO:Addr} {t1 t2 t3 t4 t5 tM:Tok}
theorem FP:ay ["text"] ["text"] (aj im):=cH (by decide +kernel)
variable {n m:Nat} {fd:FuncData} {f:Addr}
theorem Eo (F:K7 K "read_table" "read_table" im f fd) (B:Bl mg) (hM:mg "MOST_SIGNS"=some (.int 20000 tM)) (TO:Fn P w K mg base "tokens_of" 3 ["text"] on) (RF:Fn P w K mg base "read_form" n ["tokens"] rW) (TF:Fn P w K mg base "table_of_form" m ["form"] (Cm C)) (hn:3<=n) (hm:m<=n):KU P w K mg base bY (n+1) f fd ["text"] (zI C):=by
 have ZZ:=FP
 walk_at "o"
 ·obtain ⟨l,D,rfl,hl,ht,hF,hO,q⟩:=h
  have hr3:KY 3 _:=hr.mono (by lia)
  have hr4:KY m _:=hr.mono hm
  have sz:(100000:Nat)<=sizeLine:=by decide
  refine ⟨_,ae (aM (PW.pt (fL (eP (dA (aQ (kX (T:="str")) (by rfl) B.isinstance ff (aa (pv 0) (aa (Mi (by rfl) B.str cb) ab))))) (dL (ak kJ (aQ bN (by rfl) B.len Hf (aa (pv 0) ab)) (bx (v:=.int 20000) rfl hM ⟨_,rfl⟩) (av _))))) (ah cN) aH)
   (ah (ao (am TF hr4 rfl (aa (am RF hr rfl (aa (am TO hr3 rfl (aa (pv 0) ab)) ab)) ab)))),?_⟩
  refine ⟨_,rfl,_,_,_,rfl,.str _,rfl,_,rfl,ck ?_⟩
  refine ⟨_,rfl,S l,rfl,(by rw [aG];lia),_,_,rfl,rfl,_,rfl,aZ (decide_eq_false (by rw [aG];lia)) ?_⟩
  refine ⟨_,rfl,l,rfl,by lia,fun p H1 np e1 s1=>?_⟩
  rw [zJ] at e1
  refine ⟨p,_,D,rfl,e1,by rw [GC];exact ht,hF,fun u H2 s2 hu=>?_⟩
  exact ⟨u,D,rfl,hu,hO,fun v H3 s3 hv=>q v H3 (s1.trans (s2.trans s3)) hv⟩
abbrev oH:Stmt:=db iS 1
abbrev jI:Stmt:=db iS 2
abbrev xn:Stmt:=db iS 3
abbrev xo:Stmt:=db iS 4
inductive gv (C:Addr) (vs:List V) (H:Hp) (Q:VK) (Z3:XK):Prop
 | mk (v D z:_) (j:Nat):vs=[v,.str z]->Ly C H v D->(D.kinds.map Kn.name)[j]?=some z->(∀ m,m < j->(D.kinds.map Kn.name)[m]?≠some z)->Q (.int j) H->gv C vs H Q Z3
inductive km (C:Addr) (vs:List V) (H:Hp) (Q:VK) (Z3:XK):Prop
 | mk (v D:_) (x:Kn):vs=[v,.str x.name]->Ly C H v D->mC D->x∈D.kinds->(∀ b,Mz H x.dd b->Q b H)->km C vs H Q Z3
inductive gP (C:Addr) (vs:List V) (H:Hp) (Q:VK) (Z3:XK):Prop
 | mk (a dx:_) (D:Fm) (pp pm pn pk:_):vs=[.ref a]->H a=some (.ins C dx (Ck (.int D.width) (.int D.cells) (.int D.depth) (.ref pp) (.ref pm) (eL D) pn pk))->(∀ p H',KO H H'->H' p=some (.tup [.int D.width,.int D.cells,.int D.depth,.ref pp,.ref pm,eL D,.ref pk])->Q (.ref p) H')->gP C vs H Q Z3
inductive xq (C:Addr) (vs:List V) (H:Hp) (Q:VK) (Z3:XK):Prop
 | mk (v D:_) (x:Kn):vs=[v,.str x.name]->Ly C H v D->mC D->x∈D.kinds->(∀ tf us,H tf=some (.tup us)->Paired (Lf H) us x.fs->Q (.ref tf) H)->xq C vs H Q Z3
theorem qu {l:List Str} (nd:l.Nodup) {j:Nat} {z:Str} (h:l[j]?=some z):∀ m,m < j->l[m]?≠some z:=by
 intro m hm e
 have h1:=(GA.mp h).1
 have h2:=(GA.mp h).2
 have h3:=(GA.mp e).1
 have h4:=(GA.mp e).2
 exact List.pairwise_iff_getElem.mp nd m j h3 h1 hm (by rw [h2,h4])
theorem qv {α β:Type} {R:α->β->Prop}:∀ {xs:List α} {ys:List β},Paired R xs ys->∀ {i:Nat} {y:β},ys[i]?=some y->∃ x,xs[i]?=some x/\R x y
 | _,_,.cons h t,0,y,e=>by
  simp at e
  exact ⟨_,rfl,e ▸ h⟩
 | _,_,.cons h t,i+1,y,e=>by
  obtain ⟨x,a,b⟩:=qv t (i:=i) (y:=y) (by simpa using e)
  exact ⟨x,by simpa using a,b⟩
theorem xr {α:Type} {x:α}:∀ {l:List α},x∈l->∃ j:Nat,l[j]?=some x:=fun h=>let ⟨j,hj,e⟩:=List.getElem_of_mem h;⟨j,by rw [GJ hj,e]⟩
variable {H H':Hp}
theorem Ly.same {v:V} {D:Fm} (h:Ly C H v D) (s:KO H H'):Ly C H' v D:=
 let ⟨a,dx,pp,pm,pn,pk,us,e,b,c,d,f,g,i⟩:=h
 ⟨a,dx,pp,pm,pn,pk,us,e,s _ _ b,s _ _ c,s _ _ d,s _ _ f,s _ _ g,bS (fun _ _ h=>Ma.kt (al s) h) i⟩
theorem xt:ay ["self","kind"] ["self","kind"] (aj oH):=cH (by decide +kernel)
theorem vh (F:K7 K "kind_at" "Table.kind_at" oH f fd) (T:Tc K C):KU P w K mg base bY 1 f fd ["self","kind"] (gv C):=by
 have ZZ:=xt
 walk_at "o"
 ·obtain ⟨v,D,z,j,rfl,⟨a,dx,pp,pm,pn,pk,us,rfl,ho,hpp,hpm,hpn,hpk,Ja⟩,hj,hf,q⟩:=h
  refine ⟨_,ae (aM (ak fw (pv 1) (bH (pv 0) rfl) rfl) (ah cN) aH)
   (ah (ao (Cn PySem.F.plainAttrs_tuple PySem.F.slot_tuple_index PySem.F.type_tuple_index qr (bH (pv 0) rfl) (aa (pv 1) ab)))),?_⟩
  have hz:z∈D.kinds.map Kn.name:=GM hj
  refine ⟨_,rfl,_,rfl,a,C,dx,_,_,rfl,ho,T.cl,T.na "kinds" (by decide +kernel),rfl,pn,_,rfl,.inr (KP.of hpn),rfl,dZ _,_,rfl,aZ ?_ ?_⟩
  ·show (!iH (.str z) (ai (D.kinds.map Kn.name)))=false
   rw [c7,Hh.mpr hz]
   rfl
  ·exact ⟨_,rfl,a,C,dx,_,_,rfl,ho,T.cl,T.na "kinds" (by decide +kernel),rfl,pn,_,rfl,hpn,_,rfl,pn,_,z,j,rfl,rfl,KP.of hpn,hj,hf,q⟩
theorem FQ:ay ["self","kind"] ["self","kind"] (aj jI):=cH (by decide +kernel)
theorem Ep (F:K7 K "fields_of" "Table.fields_of" jI f fd) (T:Tc K C) (KA:dz P w K mg base C "kind_at" 1 ["self","kind"] (gv C)):KU P w K mg base bY 2 f fd ["self","kind"] (xq C):=by
 have ZZ:=FQ
 walk_at "o"
 ·obtain ⟨v,D,x,rfl,hT,hD,hx,q⟩:=h
  obtain ⟨a,dx,pp,pm,pn,pk,us,rfl,ho,hpp,hpm,hpn,hpk,Ja⟩:=id hT
  have IS:KY 1 _:=hr
  obtain ⟨f1,IV,M1,F1,B1⟩:=KA
  refine ⟨_,ah (ao (aq ax (aq ax (bH (pv 0) rfl) (KZ (pv 0) (aa (pv 1) ab)) (fun _ _=>rfl)) ag (fun _ _=>rfl))),?_⟩
  obtain ⟨j,hj⟩:=xr hx
  obtain ⟨u,hu,p,tf,b,fu,rfl,hp,htf,hfu,hb⟩:=qv Ja hj
  have hjn:(D.kinds.map Kn.name)[j]?=some x.name:=by rw [GY,hj];rfl
  refine ⟨_,rfl,a,C,dx,_,_,rfl,ho,T.cl,T.na "kinds_known" (by decide +kernel),rfl,_,rfl,a,dx,C,f1,_,IV,1,["self","kind"],_,rfl,ho,rfl,T.cl,M1,F1,IS,B1,_,rfl,_,D,x.name,j,rfl,hT,hjn,qu hD.kn hjn,?_⟩
  exact ⟨pk,us,_,_,rfl,rfl,KP.of hpk,bf hu,p,_,_,_,rfl,rfl,KP.of hp,rfl,q tf fu htf hfu⟩
theorem Co:ay ["self","kind"] ["self","kind"] (aj xn):=cH (by decide +kernel)
theorem xu (F:K7 K "deed" "Table.deed" xn f fd) (T:Tc K C) (KA:dz P w K mg base C "kind_at" 1 ["self","kind"] (gv C)):KU P w K mg base bY 2 f fd ["self","kind"] (km C):=by
 have ZZ:=Co
 walk_at "o"
 ·obtain ⟨v,D,x,rfl,hT,hD,hx,q⟩:=h
  obtain ⟨a,dx,pp,pm,pn,pk,us,rfl,ho,hpp,hpm,hpn,hpk,Ja⟩:=id hT
  have IS:KY 1 _:=hr
  obtain ⟨f1,IV,M1,F1,B1⟩:=KA
  refine ⟨_,ah (ao (aq ax (aq ax (bH (pv 0) rfl) (KZ (pv 0) (aa (pv 1) ab)) (fun _ _=>rfl)) ag (fun _ _=>rfl))),?_⟩
  obtain ⟨j,hj⟩:=xr hx
  obtain ⟨u,hu,p,tf,b,fu,rfl,hp,htf,hfu,hb⟩:=qv Ja hj
  have hjn:(D.kinds.map Kn.name)[j]?=some x.name:=by rw [GY,hj];rfl
  refine ⟨_,rfl,a,C,dx,_,_,rfl,ho,T.cl,T.na "kinds_known" (by decide +kernel),rfl,_,rfl,a,dx,C,f1,_,IV,1,["self","kind"],_,rfl,ho,rfl,T.cl,M1,F1,IS,B1,_,rfl,_,D,x.name,j,rfl,hT,hjn,qu hD.kn hjn,?_⟩
  exact ⟨pk,us,_,_,rfl,rfl,KP.of hpk,bf hu,p,_,_,_,rfl,rfl,KP.of hp,gp,q b hb⟩
theorem Cq:ay ["self"] ["self"] (aj xo):=cH (by decide +kernel)
theorem xw (F:K7 K "told" "Table.told" xo f fd) (T:Tc K C):KU P w K mg base bY 1 f fd ["self"] (gP C):=by
 have ZZ:=Cq
 walk_at "o"
 ·obtain ⟨a,dx,D,pp,pm,pn,pk,rfl,ho,q⟩:=h
  refine ⟨_,ah (ao (aC (aa (bH (pv 0) rfl) (aa (bH (pv 0) rfl) (aa (bH (pv 0) rfl) (aa (bH (pv 0) rfl) (aa (bH (pv 0) rfl) (aa (bH (pv 0) rfl) (aa (bH (pv 0) rfl) ab))))))))),?_⟩
  refine ⟨_,rfl,a,C,dx,_,_,rfl,ho,T.cl,T.na "width" (by decide +kernel),rfl,_,rfl,a,C,dx,_,_,rfl,ho,T.cl,T.na "cells" (by decide +kernel),rfl,_,rfl,a,C,dx,_,_,rfl,ho,T.cl,T.na "depth" (by decide +kernel),rfl,_,rfl,a,C,dx,_,_,rfl,ho,T.cl,T.na "places" (by decide +kernel),rfl,_,rfl,a,C,dx,_,_,rfl,ho,T.cl,T.na "marks" (by decide +kernel),rfl,_,rfl,a,C,dx,_,_,rfl,ho,T.cl,T.na "gate" (by decide +kernel),rfl,_,rfl,a,C,dx,_,_,rfl,ho,T.cl,T.na "kinds_known" (by decide +kernel),rfl,aW,fun p np=>?_⟩
  exact q p _ (ad np) ac
def gw (x:Ne):List cE:=[Sum.inr x.2.1,Sum.inr (eC x.2.2.1),Sum.inl (x.2.2.2:Int)]
def NR (kvs:List (List cE×V)) (ks:List Ne):Prop:=∀ x∈ks,bh kvs (gw x)=some (.str x.1)
inductive Nj (H:Hp) (d:Addr) (ks:List Ne):Prop
 | mk (kvs:_):H d=some (.dT kvs)->NR kvs ks->Nj H d ks
variable {ks:List Ne}
theorem Nj.same {d:Addr} (h:Nj H d ks) (s:KO H H'):Nj H' d ks:=let ⟨kvs,a,b⟩:=h;⟨kvs,s _ _ a,b⟩
theorem NR.put {kvs:List (List cE×V)} {x:Ne} (h:NR kvs ks) (hx:gw x∉ks.map gw):NR (bu kvs (gw x) (.str x.1)) (ks++[x]):=by
 intro y hy
 rw [kY]
 rcases GP.mp hy with hy|hy
 ·rw [if_neg (fun e=>hx (by rw [<-e];exact G0.mpr ⟨y,hy,rfl⟩))]
  exact h y hy
 ·rw [G8.mp hy,if_pos rfl]
theorem ko (x:Ne):(gw x).map kV=[V.str x.2.1,.str (eC x.2.2.1),.int (x.2.2.2:Nat)]:=rfl
inductive lT (vs:List V) (H:Hp) (Q:VK) (Z3:XK):Prop
 | mk (d ks v z st b n:_):vs=[.ref d,.str st,v]->Nj H d ks->MG H b n v->(z,st,b,n)∈ks->(∀ H',KO H H'->Q (.str z) H')->lT vs H Q Z3
def iZ:Ex->Prop
 | .num n=>n < 2 ^ 25
 | .nm _=>True
 | .cell e=>iZ e
 | .two _ x y=>iZ x/\iZ y
theorem jJ {w:Nat} (hw:w<=24):∀ {m:Nat} {e:Ex},ca w m e->iZ e
 | 0,.num n,h=>by
  have h':n < 2 ^ w:=h
  have:=Hk (n:=2) (by decide) hw
  show n < 2 ^ 25
  lia
 | _+1,.num n,h=>by
  have h':n < 2 ^ w:=h
  have:=Hk (n:=2) (by decide) hw
  show n < 2 ^ 25
  lia
 | _,.nm _,_=>trivial
 | 0,.cell _,h=>absurd h (by simp [ca])
 | m+1,.cell e,h=>jJ hw (m:=m) (e:=e) h
 | 0,.two _ _ _,h=>absurd h (by simp [ca])
 | m+1,.two _ x y,h=>⟨jJ hw (m:=m) (e:=x) h.2.1,jJ hw (m:=m) (e:=y) h.2.2⟩
def xx (ks:List Ne):Prop:=∀ z s b n,(z,s,b,n)∈ks->(s="number"\/s="row")->b=true
inductive xy (m:Nat) (vs:List V) (H:Hp) (Q:VK):Prop
 | mk (d ks v e ed:_):vs=[.ref d,v]->Nj H d ks->xx ks->LY H ed v->qo ks e ed->iZ e->iI e<=m->(bP e).length<=5000->(∀ l H',KO H H'->H l=none->H' l=some (.lst (ai (bP e)))->Q (.ref l) H')->xy m vs H Q
def tO :Nat->Sp
 | 0=>jX
 | m+1=>fun vs H Q _=>xy m vs H Q
theorem di {i:Nat} (h:i < 2 ^ 25):((i:Nat):Int).natAbs.log2 < 1920:=by
 rw [Int.natAbs_natCast]
 by_cases h0:i=0
 ·rw [h0];decide
 ·rw [Nat.log2_lt h0]
  exact He h (Hk (by decide) (by decide))
theorem bV (a b:List Str):ai a++ai b=ai (a++b):=by unfold ai;rw [GK]
theorem aY (a:List Str):(ai a).length=a.length:=by unfold ai;rw [GC]
theorem Cr:ay ["names","sort","sel"] ["names","sort","sel"] (aj jy):=cH (by decide +kernel)
theorem zK (F:K7 K "sel_shown" "sel_shown" jy f fd):KU P w K mg base bY 1 f fd ["names","sort","sel"] lT:=by
 have ZZ:=Cr
 walk_at "o"
 ·obtain ⟨d,ks,v,z,st,b,n,rfl,⟨kvs,hd,hk⟩,⟨sq,rfl,hq⟩,hm,q⟩:=h
  have hu:=dP hr
  refine ⟨_,ah (ao (bD hu (pv 0) (aC (aa (pv 1) (aa (aq ax (pv 2) ag (fun _ _=>rfl)) (aa (aq ax (pv 2) ag (fun _ _=>rfl)) ab)))) (fun _ _=>rfl))),?_⟩
  refine ⟨_,rfl,_,rfl,_,rfl,sq,_,_,_,rfl,rfl,KP.of hq,aT,_,rfl,sq,_,_,_,rfl,rfl,KP.of hq,bQ,aW,fun t nt=>?_⟩
  have s1:=ad (o:=.tup [.str st,.str (eC b),.int (n:Nat)]) nt
  have hv:=hk _ hm
  have g:=Li.t (k:=gw (z,st,b,n)) (s1 _ _ hd) (b:=t) (by rw [ko];exact ac)
  rw [hv] at g
  exact ⟨d,_,rfl,g,q _ s1⟩
theorem NF:ay ["names","e","one"] ["names","e"] (aj iw):=cH (by decide +kernel)
theorem oI (F:K7 K "expression_shown" "expression_shown" iw f fd) (B:Bl mg) (SS:Fn P w K mg base "sel_shown" 1 ["names","sort","sel"] lT) (EX:Fn P w K mg base "expression_shown" n ["names","e"] (tO m)) (hn:1<=n):KU P w K mg base bY (n+1) f fd ["names","e"] (tO (m+1)):=by
 have ZZ:=NF
 walk_at "o"
 ·obtain ⟨d,ks,v,e,ed,rfl,hN,hby,hV,hE,hnum,hD,hL,q⟩:=h
  have IS:KY 1 _:=hr.mono (by lia)
  have hu:=dP hr
  have sz:(10000:Nat)<=sizeLine:=by decide
  refine ⟨_,ae (aM (ak be (aq ax (pv 1) ag (fun _ _=>rfl)) af (av _)) (ah (ao (aB (aa (aU ce (by rfl) B.str cb (aa (aq ax (pv 1) ag (fun _ _=>rfl)) ab)) ab)))) aH)
   (ae (aM (ak be (aq ax (pv 1) ag (fun _ _=>rfl)) af (av _)) (ah (ao (aB (aa (bD hu (pv 0) (aC (aa af (aa af (aa (aq ax (pv 1) ag (fun _ _=>rfl)) ab)))) (fun _ _=>rfl)) ab)))) aH)
   (ae (aM (ak dh (aq ax (pv 1) ag (fun _ _=>rfl)) (aC (aa af (aa af ab))) rfl) (ah (ao (aB (aa (am SS IS rfl (aa (pv 0) (aa (aq ax (pv 1) ag (fun _ _=>rfl)) (aa (aq ax (pv 1) ag (fun _ _=>rfl)) ab)))) ab)))) aH)
   (ae (aM (ak be (aq ax (pv 1) ag (fun _ _=>rfl)) af (av _)) (ah (ao (ar aR (ar aR (aB (aa af ab)) (am EX hr rfl (aa (pv 0) (aa (aq ax (pv 1) ag (fun _ _=>rfl)) ab)))) (aB (aa af ab))))) aH)
   (ae (ap (i:=2) NF.nd rfl (Or.inl rfl) (am EX hr rfl (aa (pv 0) (aa (aq ax (pv 1) ag (fun _ _=>rfl)) ab))))
   (ah (ao (ar aR (ar aR (ar aR (ar aR (aB (aa af ab)) (pv 2)) (aB (aa (aq ax (pv 1) ag (fun _ _=>rfl)) ab))) (am EX hr rfl (aa (pv 0) (aa (aq ax (pv 1) ag (fun _ _=>rfl)) ab)))) (aB (aa af ab))))))))),?_⟩
  have ein:∀ z:Str,iH (.str z) [.str "place",.str "mark"]=(["place","mark"]:List Str).contains z:=fun z=>c7 z ["place","mark"]
  have hsel:∀ (st z:Str) (b:Bool) (i:Nat) (p:Addr) (u:V),st∈(["place","mark"]:List Str)->H p=some (.tup [.str st,u])->MG H b i u->(z,st,b,i)∈ks->(∀ l H',KO H H'->H l=none->H' l=some (.lst (ai [z]))->Q (.ref l) H')->True:=fun _ _ _ _ _ _ _ _ _ _ _=>trivial
  cases hE with
  | num i=>
   obtain ⟨p,rfl,hp⟩:=hV
   have hi:i < 2 ^ 25:=hnum
   refine ⟨_,rfl,p,_,_,_,rfl,rfl,KP.of hp,aT,rfl,_,rfl,br (decide_eq_true rfl) ?_⟩
   refine ⟨_,rfl,p,_,_,_,rfl,rfl,KP.of hp,bQ,_,rfl,di hi,aW,fun l nl=>?_⟩
   exact q _ _ (ad nl) nl ac
  | @fld z b i hm=>
   obtain ⟨p,rfl,hp⟩:=hV
   obtain ⟨kvs,hd,hk⟩:=id hN
   have hb:b=true:=hby _ _ _ _ hm (.inl rfl)
   subst hb
   refine ⟨_,rfl,p,_,_,_,rfl,rfl,KP.of hp,aT,rfl,_,rfl,aZ (by decide +kernel) ?_⟩
   refine ⟨_,rfl,p,_,_,_,rfl,rfl,KP.of hp,aT,rfl,_,rfl,br (decide_eq_true rfl) ?_⟩
   refine ⟨_,rfl,_,rfl,p,_,_,_,rfl,rfl,KP.of hp,bQ,aW,fun t nt=>?_⟩
   have s1:=ad (o:=.tup [.str "number",.str "by",.int (i:Nat)]) nt
   have hv:=hk _ hm
   have g:=Li.t (k:=gw (z,"number",true,i)) (s1 _ _ hd) (b:=t) (by rw [ko];exact ac)
   rw [hv] at g
   refine ⟨d,_,rfl,g,aW,fun l nl=>?_⟩
   exact q _ _ (s1.trans (ad nl)) (s1.free nl) ac
  | @pl z b i hm=>
   obtain ⟨p,u,rfl,hp,hu'⟩:=hV
   refine ⟨_,rfl,p,_,_,_,rfl,rfl,KP.of hp,aT,rfl,_,rfl,aZ (by decide +kernel) ?_⟩
   refine ⟨_,rfl,p,_,_,_,rfl,rfl,KP.of hp,aT,rfl,_,rfl,aZ (by decide +kernel) ?_⟩
   refine ⟨_,rfl,p,_,_,_,rfl,rfl,KP.of hp,aT,aW,fun t nt=>?_⟩
   have s1:=ad (o:=.tup [.str "place",.str "mark"]) nt
   refine ⟨t,_,rfl,.inr (KP.of ac),rfl,rfl,_,rfl,br (by show iH (.str "place") [.str "place",.str "mark"]=true;decide +kernel) ?_⟩
   generalize aI H t (.tup [V.str "place",.str "mark"])=H1 at *
   refine ⟨_,rfl,_,rfl,p,_,_,_,rfl,rfl,KP.of (s1 _ _ hp),aT,_,rfl,p,_,_,_,rfl,rfl,KP.of (s1 _ _ hp),bQ,d,ks,u,z,"place",b,i,rfl,hN.same s1,hu'.kt (al s1),hm,fun H2 s2=>⟨aW,fun l nl=>?_⟩⟩
   exact q _ _ ((s1.trans s2).trans (ad nl)) ((s1.trans s2).free nl) ac
  | @mk z b i hm=>
   obtain ⟨p,u,rfl,hp,hu'⟩:=hV
   refine ⟨_,rfl,p,_,_,_,rfl,rfl,KP.of hp,aT,rfl,_,rfl,aZ (by decide +kernel) ?_⟩
   refine ⟨_,rfl,p,_,_,_,rfl,rfl,KP.of hp,aT,rfl,_,rfl,aZ (by decide +kernel) ?_⟩
   refine ⟨_,rfl,p,_,_,_,rfl,rfl,KP.of hp,aT,aW,fun t nt=>?_⟩
   have s1:=ad (o:=.tup [.str "place",.str "mark"]) nt
   refine ⟨t,_,rfl,.inr (KP.of ac),rfl,rfl,_,rfl,br (by show iH (.str "mark") [.str "place",.str "mark"]=true;decide +kernel) ?_⟩
   generalize aI H t (.tup [V.str "place",.str "mark"])=H1 at *
   refine ⟨_,rfl,_,rfl,p,_,_,_,rfl,rfl,KP.of (s1 _ _ hp),aT,_,rfl,p,_,_,_,rfl,rfl,KP.of (s1 _ _ hp),bQ,d,ks,u,z,"mark",b,i,rfl,hN.same s1,hu'.kt (al s1),hm,fun H2 s2=>⟨aW,fun l nl=>?_⟩⟩
   exact q _ _ ((s1.trans s2).trans (ad nl)) ((s1.trans s2).free nl) ac
  | @cell e1 d1 h1=>
   obtain ⟨p,u,rfl,hp,hu'⟩:=hV
   cases m with
   | zero=>simp [iI] at hD
   | succ m=>
    have IQ:(bP (.cell e1)).length=(bP e1).length+2:=by
     show (("[":Str)::(bP e1++[("]":Str)])).length=_
     simp
    refine ⟨_,rfl,p,_,_,_,rfl,rfl,KP.of hp,aT,rfl,_,rfl,aZ (by decide +kernel) ?_⟩
    refine ⟨_,rfl,p,_,_,_,rfl,rfl,KP.of hp,aT,rfl,_,rfl,aZ (by decide +kernel) ?_⟩
    refine ⟨_,rfl,p,_,_,_,rfl,rfl,KP.of hp,aT,aW,fun t nt=>?_⟩
    have s1:=ad (o:=.tup [.str "place",.str "mark"]) nt
    refine ⟨t,_,rfl,.inr (KP.of ac),rfl,rfl,_,rfl,aZ (by show iH (.str "cell") [.str "place",.str "mark"]=false;decide +kernel) ?_⟩
    generalize aI H t (.tup [V.str "place",.str "mark"])=H1 at *
    have hp1:=s1 _ _ hp
    refine ⟨_,rfl,p,_,_,_,rfl,rfl,KP.of hp1,aT,rfl,_,rfl,br (decide_eq_true rfl) ?_⟩
    refine ⟨aW,fun l1 n1=>?_⟩
    have s2:=ad (o:=.lst (ai ["["])) n1
    have e2:(aI H1 l1 (.lst (ai ["["]))) l1=some (.lst (ai ["["])):=ac
    generalize hH2:aI H1 l1 (.lst (ai ["["]))=H2 at *
    have s02:=s1.trans s2
    have hH2':aI H1 l1 (.lst [V.str "["])=H2:=hH2
    rw [hH2']
    refine ⟨_,rfl,_,rfl,p,_,_,_,rfl,rfl,KP.of (s02 _ _ hp),bQ,d,ks,u,e1,d1,rfl,hN.same s02,hby,hu'.kt (al s02),h1,hnum,by simp [iI] at hD;lia,by lia,fun l2 H3 s3 n2 e3=>?_⟩
    refine ⟨l1,l2,_,_,rfl,rfl,s3 _ _ e2,e3,by rw [aY,aY];simp;lia,fun l3 n3=>?_⟩
    rw [bV]
    generalize zz:aI H3 l3 _=H4
    have s4:KO H3 H4:=zz ▸ ad n3
    have e4:H4 l3=some (.lst (ai ([("[":Str)]++bP e1))):=zz ▸ ac
    clear zz
    refine ⟨aW,fun l4 n4=>?_⟩
    have s5:=ad (o:=.lst [.str "]"]) n4
    refine ⟨l3,l4,_,_,rfl,rfl,s5 _ _ e4,ac,by rw [aY];simp;lia,fun l5 n5=>?_⟩
    have s05:=((s02.trans s3).trans s4).trans s5
    have e5:ai ([("[":Str)]++bP e1)++[V.str "]"]=ai (bP (.cell e1)):=by
     show _++ai ["]"]=ai (("[":Str)::(bP e1++[("]":Str)]))
     rw [bV]
     rfl
    rw [e5]
    exact q _ _ (s05.trans (ad n5)) (s05.free n5) ac
  | @two o x y a b ho hx hy=>
   obtain ⟨p,u,t0,rfl,hp,hu',ht'⟩:=hV
   obtain ⟨o1,o2,o3⟩:=xg
   have of1:o≠"field":=fun e=>by rw [e] at ho;revert ho;decide +kernel
   have of2:o≠"place"/\o≠"mark":=⟨fun e=>by rw [e] at ho;revert ho;decide +kernel,fun e=>by rw [e] at ho;revert ho;decide +kernel⟩
   cases m with
   | zero=>simp [iI] at hD
   | succ m=>
    have hD':iI x<=m/\iI y<=m:=by
     simp only [iI] at hD
     lia
    have IQ:(bP (.two o x y)).length=(bP x).length+(bP y).length+3:=by
     show (("(":Str)::(bP x++o::(bP y++[(")":Str)]))).length=_
     simp
     lia
    refine ⟨_,rfl,p,_,_,_,rfl,rfl,KP.of hp,aT,rfl,_,rfl,aZ (decide_eq_false fun e=>o1 (V.str.inj e ▸ ho)) ?_⟩
    refine ⟨_,rfl,p,_,_,_,rfl,rfl,KP.of hp,aT,rfl,_,rfl,aZ (decide_eq_false fun e=>of1 (V.str.inj e)) ?_⟩
    refine ⟨_,rfl,p,_,_,_,rfl,rfl,KP.of hp,aT,aW,fun t nt=>?_⟩
    have s1:=ad (o:=.tup [.str "place",.str "mark"]) nt
    refine ⟨t,_,rfl,.inr (KP.of ac),rfl,rfl,_,rfl,aZ ?_ ?_⟩
    ·show iH (.str o) [.str "place",.str "mark"]=false
     rw [ein]
     refine HV.mpr fun h=>?_
     have h':=Hh.mp h
     simp only [GF,GH,or_false] at h'
     rcases h' with h'|h'
     ·exact of2.1 h'
     ·exact of2.2 h'
    generalize aI H t (.tup [V.str "place",.str "mark"])=H1 at *
    have hp1:=s1 _ _ hp
    refine ⟨_,rfl,p,_,_,_,rfl,rfl,KP.of hp1,aT,rfl,_,rfl,aZ (decide_eq_false fun e=>o3 (V.str.inj e ▸ ho)) ?_⟩
    refine ⟨_,rfl,_,rfl,p,_,_,_,rfl,rfl,KP.of hp1,bQ,d,ks,u,x,a,rfl,hN.same s1,hby,hu'.kt (al s1),hx,hnum.1,hD'.1,by lia,fun l1 H2 s2 n1 e2=>?_⟩
    have s02:=s1.trans s2
    refine ⟨aW,fun l3 n3=>?_⟩
    have s3:=ad (o:=.lst [.str "("]) n3
    refine ⟨_,rfl,l3,l1,_,_,rfl,rfl,ac,s3 _ _ e2,by rw [aY];simp;lia,fun l4 n4=>?_⟩
    have e3:[V.str "("]++ai (bP x)=ai ([("(":Str)]++bP x):=bV ["("] _
    rw [e3]
    generalize aI H2 l3 (.lst [V.str "("])=H3 at *
    generalize zz:aI H3 l4 _=H4
    have s4:KO H3 H4:=zz ▸ ad n4
    have e4:H4 l4=some (.lst (ai ([("(":Str)]++bP x))):=zz ▸ ac
    clear zz
    have s04:=(s02.trans s3).trans s4
    refine ⟨_,rfl,p,_,_,_,rfl,rfl,KP.of (s04 _ _ hp),aT,aW,fun l5 n5=>?_⟩
    have s5:=ad (o:=.lst [.str o]) n5
    refine ⟨l4,l5,_,_,rfl,rfl,s5 _ _ e4,ac,by rw [aY];simp;lia,fun l6 n6=>?_⟩
    have e5:ai ([("(":Str)]++bP x)++[V.str o]=ai ([("(":Str)]++bP x++[o]):=bV _ [o]
    rw [e5]
    generalize aI H4 l5 (.lst [V.str o])=H5 at *
    generalize zz:aI H5 l6 _=H6
    have s6:KO H5 H6:=zz ▸ ad n6
    have e6:H6 l6=some (.lst (ai ([("(":Str)]++bP x++[o]))):=zz ▸ ac
    clear zz
    have s06:=(s04.trans s5).trans s6
    refine ⟨_,rfl,_,rfl,p,_,_,_,rfl,rfl,KP.of (s06 _ _ hp),gp,d,ks,t0,y,b,rfl,hN.same s06,hby,ht'.kt (al s06),hy,hnum.2,hD'.2,by lia,fun l7 H7 s7 n7 e7=>?_⟩
    refine ⟨l6,l7,_,_,rfl,rfl,s7 _ _ e6,e7,by rw [aY,aY];simp;lia,fun l8 n8=>?_⟩
    rw [bV]
    generalize zz:aI H7 l8 _=H8
    have s8:KO H7 H8:=zz ▸ ad n8
    have e8:H8 l8=some (.lst (ai ([("(":Str)]++bP x++[o]++bP y))):=zz ▸ ac
    clear zz
    refine ⟨aW,fun l9 n9=>?_⟩
    have s9:=ad (o:=.lst [.str ")"]) n9
    refine ⟨l8,l9,_,_,rfl,rfl,s9 _ _ e8,ac,by rw [aY];simp;lia,fun l10 n10=>?_⟩
    have s09:=((s06.trans s7).trans s8).trans s9
    have e10:ai ([("(":Str)]++bP x++[o]++bP y)++[V.str ")"]=ai (bP (.two o x y)):=by
     show _++ai [")"]=ai (("(":Str)::(bP x++o::(bP y++[(")":Str)])))
     rw [bV]
     congr 1
     simp
    rw [e10]
    exact q _ _ (s09.trans (ad n10)) (s09.free n10) ac
end L3
namespace L2
open PySem PySem.Spec PyProof.Rows
theorem xz:fillsInplaceSlot (.type "list") "add" true=pure false:=by rfl
theorem xA:fillsNumberSlot (.type "list") "add"=pure false:=by rfl
theorem xB:seqSlot? (.type "list") (dunderI "add")=pure (some (.builtin "list.__iadd__")):=by rfl
theorem oJ {M:Model} {A:Around} {E:Value->Shared->Prop} {s:Shared} {a b:Value} {Q:Value->Shared->Prop} (ha:s.TypeIs a "list") (hb:s.TypeIs b "list") (h:wpAny M A (call (.builtin "list.__iadd__") [a,b]) Q E s):wpAny M A (inplaceOp .Add a b) Q E s:=by
 unfold inplaceOp
 refine wpAny_holding (wpAny_bind (wpAny_typeOf ha ?_))
 refine wpAny_bind ?_
 show wpAny M A (fillsInplaceSlot (.type "list") "add" true) _ E s
 rw [xz]
 refine wpAny_pure ?_
 rw [if_neg (by decide)]
 refine wpAny_bind (wpAny_binaryOp1_none ha hb xA ?_)
 refine wpAny_bind ?_
 show wpAny M A (seqSlot? (.type "list") (dunderI "add")) _ E s
 rw [xB]
 refine wpAny_pure ?_
 exact wpAny_bind (wpAny_rule h)
section
variable {X:Cx}
inductive A0 (x:V) (y:V) (H:Hp) (Q:VK):Prop
 | mk (l b xs zs:_):x=.ref l->y=.ref b->H l=some (.lst xs)->H b=some (.lst zs)->xs.length+zs.length<=sizeLine->Q (.ref l) (aI H l (.lst (xs++zs)))->A0 x y H Q
theorem rZ:Fp X .Add A0:=by
 intro IP s σ H x y v u Q I rx ry h
 obtain ⟨l,b,xs,zs,rfl,rfl,hH,hB,hz,q⟩:=h
 cases rx
 cases ry
 obtain ⟨z,its,n,r,hl,e⟩:=I.lstM hH
 obtain ⟨z2,its2,n2,r2,hl2,e2⟩:=I.lstM hB
 refine oJ ⟨_,e,rfl⟩ ⟨_,e2,rfl⟩ ?_
 have hsz:its.toArray.size+its2.toArray.size<=sizeLine:=by rw [GW,GW];lia
 have hlong:¬ (!its.toArray.isEmpty && Builtin.List.listTooLong (its.toArray.size+its2.toArray.size))=true:=by
  rw [wb hsz,Bool.and_false]
  exact GU
 refine call_meets F.slot_list_iadd ⟨_,e,rfl⟩ F.entry_list_iadd (F.args_list_iadd_2 _ _) (PySem.AutoSeq1.list___iadd___list_list_0 l its.toArray n b its2.toArray n2 hlong (by rw [GW];lia) (by lia)) ⟨e,e2,?_⟩
 ·refine ⟨.ref l,_,I.lset (its':=its++its2) hH e (by simp) (r.append r2) ?_,rfl,q⟩
  rw [Gy]
  lia
end
end L2
namespace L3
open PySem L2
inductive oK (vs:List V) (H:Hp) (Q:VK) (Z3:XK):Prop
 | mk (d ks v t z t':_):vs=[.ref d,v]->Nj H d ks->No H t' v->Ch ks t z t'->(∀ l H',KO H H'->H l=none->H' l=some (.lst (ai (cI t z)))->Q (.ref l) H')->oK vs H Q Z3
inductive r9 (m:Nat) (vs:List V) (H:Hp) (Q:VK) (Z3:XK):Prop
 | mk (d ks v g g':_):vs=[.ref d,v]->Nj H d ks->xx ks->Ll H g' v->AV ks g g'->(iZ (iW g)/\∀ a e,g=.cell a e->iZ a)->xh g<=m->(gW g).length<=5000->(∀ l H',KO H H'->H l=none->H' l=some (.lst (ai (("set":Str)::gW g)))->Q (.ref l) H')->r9 m vs H Q Z3
inductive sd (vs:List V) (H:Hp) (Q:VK) (Z3:XK):Prop
 | mk (d ks v e e':_):vs=[.ref d,v]->Nj H d ks->xx ks->Nr H e' v->Cg ks e e'->(∀ l H',KO H H'->H l=none->H' l=some (.lst (ai (fH e)))->Q (.ref l) H')->sd vs H Q Z3
variable {P:Program} {w:World} {K:ZF} {mg:Str->Option Value} {base:Heap} {C fi aS aE aF aO:Addr} {t1 t2 t3 t4 t5 tM:Tok}
theorem zL:ay ["names","test"] ["names","test"] (aj iu):=cH (by decide +kernel)
variable {fd:FuncData} {f:Addr}
theorem xC (F:K7 K "test_shown" "test_shown" iu f fd) (SS:Fn P w K mg base "sel_shown" 1 ["names","sort","sel"] lT):KU P w K mg base bY 2 f fd ["names","test"] oK:=by
 have ZZ:=zL
 walk_at "o"
 ·obtain ⟨d,ks,v,t,z,t',rfl,hN,⟨p,u,rfl,hp,hu⟩,hT,q⟩:=h
  refine ⟨_,ae (aM (ak be (aq ax (pv 1) ag (fun _ _=>rfl)) af (av _)) (ah (ao (aB (aa af (aa (am SS hr rfl (aa (pv 0) (aa af (aa (aq ax (pv 1) ag (fun _ _=>rfl)) ab)))) ab))))) aH)
   (ah (ao (aB (aa (am SS hr rfl (aa (pv 0) (aa (aq ax (pv 1) ag (fun _ _=>rfl)) (aa (aq ax (pv 1) ag (fun _ _=>rfl)) ab)))) ab)))),?_⟩
  cases hT with
  | @top _ b i hm=>
   refine ⟨_,rfl,p,_,_,_,rfl,rfl,KP.of hp,aT,rfl,_,rfl,br (decide_eq_true rfl) ?_⟩
   refine ⟨_,rfl,_,rfl,p,_,_,_,rfl,rfl,KP.of hp,bQ,d,ks,u,z,"place",b,i,rfl,hN,hu,hm,fun H1 s1=>⟨aW,fun l nl=>?_⟩⟩
   exact q _ _ (s1.trans (ad nl)) (s1.free nl) ac
  | @pl _ b i hm=>
   refine ⟨_,rfl,p,_,_,_,rfl,rfl,KP.of hp,aT,rfl,_,rfl,aZ (decide_eq_false fun e=>absurd (V.str.inj e) (by show (("place":String):Str)≠"top";decide +kernel)) ?_⟩
   refine ⟨_,rfl,_,rfl,p,_,_,_,rfl,rfl,KP.of hp,aT,_,rfl,p,_,_,_,rfl,rfl,KP.of hp,bQ,d,ks,u,z,"place",b,i,rfl,hN,hu,hm,fun H1 s1=>⟨aW,fun l nl=>?_⟩⟩
   exact q _ _ (s1.trans (ad nl)) (s1.free nl) ac
  | @mk _ b i hm=>
   refine ⟨_,rfl,p,_,_,_,rfl,rfl,KP.of hp,aT,rfl,_,rfl,aZ (decide_eq_false fun e=>absurd (V.str.inj e) (by show (("mark":String):Str)≠"top";decide +kernel)) ?_⟩
   refine ⟨_,rfl,_,rfl,p,_,_,_,rfl,rfl,KP.of hp,aT,_,rfl,p,_,_,_,rfl,rfl,KP.of hp,bQ,d,ks,u,z,"mark",b,i,rfl,hN,hu,hm,fun H1 s1=>⟨aW,fun l nl=>?_⟩⟩
   exact q _ _ (s1.trans (ad nl)) (s1.free nl) ac
theorem Cs:ay ["names","end"] ["names","end"] (aj jA):=cH (by decide +kernel)
theorem zM (F:K7 K "end_shown" "end_shown" jA f fd) (B:Bl mg):KU P w K mg base bY 2 f fd ["names","end"] sd:=by
 have ZZ:=Cs
 walk_at "o"
 ·obtain ⟨d,ks,v,e,e',rfl,hN,hby,hV,hT,q⟩:=h
  have hu:=dP hr
  refine ⟨_,ae (aM (ak dh (aq ax (pv 1) ag (fun _ _=>rfl)) (aC (aa af (aa af ab))) rfl) (ah (ao (aB (aa (aq ax (pv 1) ag (fun _ _=>rfl)) (aa (bD hu (pv 0) (aC (aa af (aa af (aa (aq ax (pv 1) ag (fun _ _=>rfl)) ab)))) (fun _ _=>rfl)) ab))))) aH)
   (ah (ao (aU fz (by rfl) B.list fE (aa (pv 1) ab)))),?_⟩
  have ein:∀ z:Str,iH (.str z) [.str "go",.str "call"]=(["go","call"]:List Str).contains z:=fun z=>c7 z ["go","call"]
  cases hT with
  | @w0 s hs=>
   obtain ⟨p,rfl,hp⟩:=hV
   refine ⟨_,rfl,p,_,_,_,rfl,rfl,KP.of hp,aT,aW,fun t1 nt=>?_⟩
   have s1:=ad (o:=.tup [.str "go",.str "call"]) nt
   refine ⟨t1,_,rfl,.inr (KP.of ac),rfl,rfl,_,rfl,aZ ?_ ?_⟩
   ·show iH (.str s) [.str "go",.str "call"]=false
    rw [ein]
    simp only [GF,GH,or_false] at hs
    rcases hs with rfl|rfl|rfl<;>decide +kernel
   refine ⟨_,rfl,p,_,rfl,.inr (KP.of (s1 _ _ hp)),fun l nl=>?_⟩
   exact q _ _ (s1.trans (ad nl)) (s1.free nl) ac
  | fault z=>
   obtain ⟨p,rfl,hp⟩:=hV
   refine ⟨_,rfl,p,_,_,_,rfl,rfl,KP.of hp,aT,aW,fun t1 nt=>?_⟩
   have s1:=ad (o:=.tup [.str "go",.str "call"]) nt
   refine ⟨t1,_,rfl,.inr (KP.of ac),rfl,rfl,_,rfl,aZ (by show iH (.str "fault") [.str "go",.str "call"]=false;decide +kernel) ?_⟩
   refine ⟨_,rfl,p,_,rfl,.inr (KP.of (s1 _ _ hp)),fun l nl=>?_⟩
   exact q _ _ (s1.trans (ad nl)) (s1.free nl) ac
  | @go s z b i hs hm=>
   obtain ⟨p,rfl,hp⟩:=hV
   obtain ⟨kvs,hd,hk⟩:=id hN
   have hb:b=true:=hby _ _ _ _ hm (.inr rfl)
   subst hb
   refine ⟨_,rfl,p,_,_,_,rfl,rfl,KP.of hp,aT,aW,fun t1 nt=>?_⟩
   have s1:=ad (o:=.tup [.str "go",.str "call"]) nt
   refine ⟨t1,_,rfl,.inr (KP.of ac),rfl,rfl,_,rfl,br ?_ ?_⟩
   ·show iH (.str s) [.str "go",.str "call"]=true
    rw [ein]
    exact Hh.mpr hs
   generalize aI H t1 (.tup [V.str "go",.str "call"])=H1 at *
   refine ⟨_,rfl,p,_,_,_,rfl,rfl,KP.of (s1 _ _ hp),aT,_,rfl,_,rfl,p,_,_,_,rfl,rfl,KP.of (s1 _ _ hp),bQ,aW,fun t2 nt2=>?_⟩
   have s2:=ad (o:=.tup [.str "row",.str "by",.int (i:Nat)]) nt2
   have hv:=hk _ hm
   have g:=Li.t (k:=gw (z,"row",true,i)) ((s1.trans s2) _ _ hd) (b:=t2) (by rw [ko];exact ac)
   rw [hv] at g
   refine ⟨d,_,rfl,g,aW,fun l nl=>?_⟩
   exact q _ _ ((s1.trans s2).trans (ad nl)) ((s1.trans s2).free nl) ac
theorem MP:ay ["names","given","target"] ["names","given"] (aj jz):=cH (by decide +kernel)
variable {n m:Nat}
theorem zN (F:K7 K "set_shown" "set_shown" jz f fd) (SS:Fn P w K mg base "sel_shown" 1 ["names","sort","sel"] lT) (EX:Fn P w K mg base "expression_shown" n ["names","e"] (tO (m+1))) (hn:1<=n):KU P w K mg base bY (n+1) f fd ["names","given"] (r9 m):=by
 have ZZ:=MP
 walk_at "o"
 ·obtain ⟨d,ks,v,g,g',rfl,hN,hby,hV,hG,⟨hn1,hn2⟩,hD,hL,q⟩:=h
  have IS:KY 1 _:=hr.mono (by lia)
  have sz:(10000:Nat)<=sizeLine:=by decide
  have hgl:=congrArg List.length (lN g)
  simp only [Gy,GB,GL] at hgl
  obtain ⟨p,st,u2,t,rfl,hp,ed,hed⟩:∃ p st u t,v=.ref p/\H p=some (.tup [.str st,u,t])/\∃ ed,LY H ed t/\qo ks (iW g) ed/\iI (iW g)<=m:=by
   cases hG with
   | @cell a e x y ha he=>
    obtain ⟨p,u,t,a1,a2,a3,a4⟩:=hV
    exact ⟨p,_,u,t,a1,a2,y,a4,he,by simp only [xh] at hD;show iI e<=m;lia⟩
   | pl hm he=>
    obtain ⟨p,u,t,a1,a2,a3,a4⟩:=hV
    exact ⟨p,_,u,t,a1,a2,_,a4,he,hD⟩
   | mk hm he=>
    obtain ⟨p,u,t,a1,a2,a3,a4⟩:=hV
    exact ⟨p,_,u,t,a1,a2,_,a4,he,hD⟩
  refine ⟨_,bz (fun σ H'=>∃ lt,σ=[some (.ref d),some (.ref p),some (.ref lt)]/\KO H H'/\H' lt=some (.lst (ai (jY g)))) (aM (ak be (aq ax (pv 1) ag (fun _ _=>rfl)) af (av _))
     (ah (ap (i:=2) MP.nd rfl (Or.inl rfl) (ar aR (ar aR (aB (aa af ab)) (am EX hr rfl (aa (pv 0) (aa (aq ax (pv 1) ag (fun _ _=>rfl)) ab)))) (aB (aa af ab)))))
     (ah (ap (i:=2) MP.nd rfl (Or.inl rfl) (aB (aa (am SS IS rfl (aa (pv 0) (aa (aq ax (pv 1) ag (fun _ _=>rfl)) (aa (aq ax (pv 1) ag (fun _ _=>rfl)) ab)))) ab)))))
   (ah (ao (ar aR (ar aR (ar aR (ar aR (aB (aa af ab)) (pv 2)) (aB (aa af ab))) (am EX hr rfl (aa (pv 0) (aa (aq ax (pv 1) ag (fun _ _=>rfl)) ab)))) (aB (aa af ab))))),?_⟩
  refine ⟨?_,?_⟩
  ·rintro σ H1 ⟨lt,rfl,s1,e1⟩
   refine ⟨aW,fun l2 n2=>?_⟩
   have s2:=ad (o:=.lst [.str "set"]) n2
   refine ⟨_,rfl,l2,lt,_,_,rfl,rfl,ac,s2 _ _ e1,by rw [aY];simp;lia,fun l3 n3=>?_⟩
   have e3:[V.str "set"]++ai (jY g)=ai ([("set":Str)]++jY g):=bV ["set"] _
   rw [e3]
   generalize aI H1 l2 (.lst [V.str "set"])=H2 at *
   generalize zz:aI H2 l3 _=H3
   have s3:KO H2 H3:=zz ▸ ad n3
   have e3':H3 l3=some (.lst (ai ([("set":Str)]++jY g))):=zz ▸ ac
   clear zz
   refine ⟨aW,fun l4 n4=>?_⟩
   have s4:=ad (o:=.lst [.str "="]) n4
   refine ⟨l3,l4,_,_,rfl,rfl,s4 _ _ e3',ac,by rw [aY];simp;lia,fun l5 n5=>?_⟩
   have e5:ai ([("set":Str)]++jY g)++[V.str "="]=ai ([("set":Str)]++jY g++[("=":Str)]):=bV _ ["="]
   rw [e5]
   generalize aI H3 l4 (.lst [V.str "="])=H4 at *
   generalize zz:aI H4 l5 _=H5
   have s5:KO H4 H5:=zz ▸ ad n5
   have e5':H5 l5=some (.lst (ai ([("set":Str)]++jY g++[("=":Str)]))):=zz ▸ ac
   clear zz
   have s05:=(((s1.trans s2).trans s3).trans s4).trans s5
   refine ⟨_,rfl,_,rfl,p,_,_,_,rfl,rfl,KP.of (s05 _ _ hp),gp,d,ks,t,iW g,ed,rfl,hN.same s05,hby,hed.1.kt (al s05),hed.2.1,hn1,hed.2.2,by lia,fun l6 H6 s6 n6 e6=>?_⟩
   refine ⟨l5,l6,_,_,rfl,rfl,s6 _ _ e5',e6,by rw [aY,aY];simp;lia,fun l7 n7=>?_⟩
   rw [bV]
   generalize zz:aI H6 l7 _=H7
   have s7:KO H6 H7:=zz ▸ ad n7
   have e7:H7 l7=some (.lst (ai ([("set":Str)]++jY g++[("=":Str)]++bP (iW g)))):=zz ▸ ac
   clear zz
   refine ⟨aW,fun l8 n8=>?_⟩
   have s8:=ad (o:=.lst [.str ";"]) n8
   refine ⟨l7,l8,_,_,rfl,rfl,s8 _ _ e7,ac,by rw [aY];simp;lia,fun l9 n9=>?_⟩
   have s08:=((s05.trans s6).trans s7).trans s8
   have e9:ai ([("set":Str)]++jY g++[("=":Str)]++bP (iW g))++[V.str ";"]=ai (("set":Str)::gW g):=by
    rw [lN]
    show _++ai [(";":Str)]=_
    rw [bV]
    congr 1
    simp
   rw [e9]
   exact q _ _ (s08.trans (ad n9)) (s08.free n9) ac
  ·refine ⟨_,rfl,p,_,_,_,rfl,rfl,KP.of hp,aT,rfl,_,rfl,?_⟩
   cases hG with
   | @cell a e x y ha he=>
    obtain ⟨p',u,t',a1,a2,a3,a4⟩:=hV
    have epp:p'=p:=(V.ref.inj a1).symm
    subst epp
    have hpe:=HO.tup.inj (Hd (a2.symm.trans hp))
    obtain ⟨h1,h2⟩:=HI hpe
    obtain ⟨h3,_⟩:=HI h2
    have hst:st="cell":=(V.str.inj h1).symm
    subst hst h3
    have hD':iI a<=m:=by simp only [xh] at hD;lia
    have hhl:(jY (.cell a e)).length=(bP a).length+2:=by
     show (("[":Str)::(bP a++[("]":Str)])).length=_
     simp
    refine br (decide_eq_true rfl) ⟨aW,fun l2 n2=>?_⟩
    have s2:=ad (o:=.lst [.str "["]) n2
    have e2:(aI H l2 (.lst [.str "["])) l2=some (.lst [.str "["]):=ac
    generalize aI H l2 (.lst [V.str "["])=H2 at *
    refine ⟨_,rfl,_,rfl,p',_,_,_,rfl,rfl,KP.of (s2 _ _ hp),bQ,d,ks,u,a,x,rfl,hN.same s2,hby,a3.kt (al s2),ha,hn2 a e rfl,hD',by lia,fun l3 H3 s3 n3 e3=>?_⟩
    refine ⟨l2,l3,_,_,rfl,rfl,s3 _ _ e2,e3,by rw [aY];simp;lia,fun l4 n4=>?_⟩
    have e4:[V.str "["]++ai (bP a)=ai ([("[":Str)]++bP a):=bV ["["] _
    rw [e4]
    generalize zz:aI H3 l4 _=H4
    have s4:KO H3 H4:=zz ▸ ad n4
    have e4':H4 l4=some (.lst (ai ([("[":Str)]++bP a))):=zz ▸ ac
    clear zz
    refine ⟨aW,fun l5 n5=>?_⟩
    have s5:=ad (o:=.lst [.str "]"]) n5
    refine ⟨l4,l5,_,_,rfl,rfl,s5 _ _ e4',ac,by rw [aY];simp;lia,fun l6 n6=>?_⟩
    have e6:ai ([("[":Str)]++bP a)++[V.str "]"]=ai (jY (.cell a e)):=by
     show _++ai [("]":Str)]=ai (("[":Str)::(bP a++[("]":Str)]))
     rw [bV]
     rfl
    rw [e6]
    exact ⟨l6,rfl,(((s2.trans s3).trans s4).trans s5).trans (ad n6),ac⟩
   | @pl z b i e y hm he=>
    obtain ⟨p',u,t',a1,a2,a3,a4⟩:=hV
    have epp:p'=p:=(V.ref.inj a1).symm
    subst epp
    have hpe:=HO.tup.inj (Hd (a2.symm.trans hp))
    obtain ⟨h1,h2⟩:=HI hpe
    obtain ⟨h3,_⟩:=HI h2
    have hst:st="place":=(V.str.inj h1).symm
    subst hst h3
    refine aZ (by decide +kernel) ⟨_,rfl,_,rfl,p',_,_,_,rfl,rfl,KP.of hp,aT,_,rfl,p',_,_,_,rfl,rfl,KP.of hp,bQ,d,ks,u,z,"place",b,i,rfl,hN,a3,hm,fun H1 s1=>⟨aW,fun l nl=>?_⟩⟩
    exact ⟨l,rfl,s1.trans (ad nl),ac⟩
   | @mk z b i e y hm he=>
    obtain ⟨p',u,t',a1,a2,a3,a4⟩:=hV
    have epp:p'=p:=(V.ref.inj a1).symm
    subst epp
    have hpe:=HO.tup.inj (Hd (a2.symm.trans hp))
    obtain ⟨h1,h2⟩:=HI hpe
    obtain ⟨h3,_⟩:=HI h2
    have hst:st="mark":=(V.str.inj h1).symm
    subst hst h3
    refine aZ (by decide +kernel) ⟨_,rfl,_,rfl,p',_,_,_,rfl,rfl,KP.of hp,aT,_,rfl,p',_,_,_,rfl,rfl,KP.of hp,bQ,d,ks,u,z,"mark",b,i,rfl,hN,a3,hm,fun H1 s1=>⟨aW,fun l nl=>?_⟩⟩
    exact ⟨l,rfl,s1.trans (ad nl),ac⟩
variable {H:Hp}
theorem cy {l b:Addr} {xs zs:List Str} {Q:VK} (hl:H l=some (.lst (ai xs))) (hb:H b=some (.lst (ai zs))) (hz:xs.length+zs.length<=1000000) (q:∀ c H',KO H H'->H c=none->H' c=some (.lst (ai (xs++zs)))->Q (.ref c) H'):yZ (.ref l) (.ref b) H Q:=by
 have sz:(1000000:Nat)<=sizeLine:=by decide
 refine ⟨l,b,_,_,rfl,rfl,hl,hb,by rw [aY,aY];lia,fun c nc=>?_⟩
 rw [bV]
 exact q _ _ (ad nc) nc ac
theorem cJ {w:Nat}:∀ {m:Nat} {e:Ex},ca w m e->(bP e).length+3<=2 ^ (m+2)
 | 0,.num n,_=>by show 1+3<=_;decide
 | m+1,.num n,_=>by
  have:0 < 2 ^ m:=Nat.pow_pos (by decide)
  show 1+3<=2 ^ (m+3)
  have:2 ^ (m+3)=8*2 ^ m:=by rw [Nat.pow_add];lia
  lia
 | 0,.nm z,_=>by show 1+3<=_;decide
 | m+1,.nm z,_=>by
  have:0 < 2 ^ m:=Nat.pow_pos (by decide)
  show 1+3<=2 ^ (m+3)
  have:2 ^ (m+3)=8*2 ^ m:=by rw [Nat.pow_add];lia
  lia
 | 0,.cell _,h=>absurd h (by simp [ca])
 | m+1,.cell e,h=>by
  have:=cJ (m:=m) (e:=e) h
  have h2:2 ^ (m+1+2)=2*2 ^ (m+2):=by rw [show m+1+2=m+2+1 by lia,IM];lia
  simp only [bP,GB,Gy,GL]
  lia
 | 0,.two _ _ _,h=>absurd h (by simp [ca])
 | m+1,.two o x y,h=>by
  have h1:=cJ (m:=m) (e:=x) h.2.1
  have h3:=cJ (m:=m) (e:=y) h.2.2
  have h2:2 ^ (m+1+2)=2*2 ^ (m+2):=by rw [show m+1+2=m+2+1 by lia,IM];lia
  simp only [bP,GB,Gy,GL]
  lia
theorem jK {w:Nat}:∀ {m:Nat} {e:Ex},ca w m e->iI e<=m
 | _,.num n,_=>Hj _
 | _,.nm z,_=>Hj _
 | 0,.cell _,h=>absurd h (by simp [ca])
 | m+1,.cell e,h=>Nat.succ_le_succ (jK (m:=m) (e:=e) h)
 | 0,.two _ _ _,h=>absurd h (by simp [ca])
 | m+1,.two o x y,h=>by
  have h1:=jK (m:=m) (e:=x) h.2.1
  have h3:=jK (m:=m) (e:=y) h.2.2
  simp only [iI]
  lia
variable {g:Gs}
theorem oN {w:Nat} (h:fG w g):(gW g).length<=62:=by
 cases g with
 | cell a e=>
  have h1:=cJ h.1
  have h2:=cJ h.2
  simp only [gW,GB,Gy,GL]
  lia
 | nm z e=>
  have h2:=cJ h.2
  simp only [gW,GB,Gy,GL]
  lia
theorem Ct {w:Nat} (h:fG w g):xh g<=3:=by
 cases g with
 | cell a e=>have h1:=jK h.1;have h2:=jK h.2;simp only [xh];lia
 | nm z e=>have h2:=jK h.2;simp only [xh];lia
theorem Cu {w:Nat} (hw:w<=24) (h:fG w g):iZ (iW g)/\∀ a e,g=.cell a e->iZ a:=by
 cases g with
 | cell a e=>exact ⟨jJ hw h.2,fun a' e' e=>by cases e;exact jJ hw h.1⟩
 | nm z e=>exact ⟨jJ hw h.2,fun a' e' e=>by cases e⟩
theorem gQ {w:Nat}:∀ {s:List Gs},(∀ g∈s,fG w g)->(bE s).length<=63*s.length
 | [],_=>Hj _
 | g::r,h=>by
  have h1:=oN (h g Gz)
  have h2:=gQ fun x hx=>h x (GD _ hx)
  simp only [bE,GB,Gy]
  lia
theorem oO (e:En):(fH e).length<=2:=by cases e<;>simp [fH]
theorem dS {w:Nat}:∀ {m:Nat} {b:Bd},dq w m b->(cV b).length+10<=500*2 ^ m
 | m,.leaf s e,h=>by
  have h1:s.length<=4:=by cases m<;>exact h.1
  have h2:∀ g∈s,fG w g:=by cases m<;>exact h.2.1
  have h3:=gQ h2
  have h4:=oO e
  have:0 < 2 ^ m:=Nat.pow_pos (by decide)
  simp only [cV,GB,Gy,GL]
  lia
 | 0,.ite _ _ _ _,h=>absurd h (by simp [dq])
 | m+1,.ite t z y n,h=>by
  have h1:=dS (m:=m) (b:=y) h.2.1
  have h2:=dS (m:=m) (b:=n) h.2.2
  have h3:2 ^ (m+1)=2*2 ^ m:=by rw [IM];lia
  have h4:(if t then [("top":Str),z] else [z]).length<=2:=by cases t<;>simp
  simp only [cV,GB,Gy,GL]
  lia
inductive xD (m:Nat) (vs:List V) (H:Hp) (Q:VK):Prop
 | mk (d ks v b b':_) (w:Nat):vs=[.ref d,v]->Nj H d ks->xx ks->Mz H b' v->AX ks b b'->w<=24->m<=4->dq w m b->(∀ l H',KO H H'->H l=none->H' l=some (.lst (ai (cV b)))->Q (.ref l) H')->xD m vs H Q
def tP :Nat->Sp
 | 0=>jX
 | m+1=>fun vs H Q _=>xD m vs H Q
theorem Lr:ay ["names","deed","yes","no","sets","given"] ["names","deed"] (aj ir):=cH (by decide +kernel)
theorem oQ (F:K7 K "body_shown" "body_shown" ir f fd) (TS:Fn P w K mg base "test_shown" 2 ["names","test"] oK) (ES:Fn P w K mg base "end_shown" 2 ["names","end"] sd) (SS:Fn P w K mg base "set_shown" n ["names","given"] (r9 3)) (BS:Fn P w K mg base "body_shown" n ["names","deed"] (tP m)) (hn:2<=n):KU P w K mg base bY (n+1) f fd ["names","deed"] (tP (m+1)):=by
 have ZZ:=Lr
 walk_at "o"
 ·obtain ⟨d,ks,v,b,b',w',rfl,hN,hby,hV,hT,hw,hm,hok,q⟩:=h
  have IU:KY 2 _:=hr.mono (by lia)
  have hbl:=dS hok
  have h16:2 ^ m<=16:=Hl (Hk (by decide) hm) (by decide)
  cases hT with
  | @ite t z t' y n' y' n'' ht hy hn'=>
   cases m with
   | zero=>simp [dq] at hok
   | succ m=>
    obtain ⟨p,u,a,bb,rfl,hp,hu,ha,hb⟩:=hV
    have l1:=dS hok.2.1
    have l2:=dS hok.2.2
    have l3:2 ^ (m+1)=2*2 ^ m:=by rw [IM];lia
    have l4:(cI t z).length<=2:=by cases t<;>simp [cI]
    refine ⟨_,ae (aM (ak be (aq ax (pv 1) ag (fun _ _=>rfl)) af (av _))
      (ae (ap (i:=2) Lr.nd rfl (Or.inl rfl) (am BS hr rfl (aa (pv 0) (aa (aq ax (pv 1) ag (fun _ _=>rfl)) ab))))
      (ae (ap (i:=3) Lr.nd rfl (Or.inl rfl) (am BS hr rfl (aa (pv 0) (aa (aq ax (pv 1) ag (fun _ _=>rfl)) ab))))
      (ah (ao (ar aR (ar aR (ar aR (ar aR (ar aR (aB (aa af (aa af ab))) (am TS IU rfl (aa (pv 0) (aa (aq ax (pv 1) ag (fun _ _=>rfl)) ab)))) (pv 2)) (aB (aa af ab))) (pv 3)) (aB (aa af ab))))))) aH)
     (ae (ap (i:=4) Lr.nd rfl (Or.inl rfl) (aB ab))
     (ae (cr PassesOwn.never rfl (ft (aq ax (pv 1) ag (fun _ _=>rfl))) (az (i:=5) Lr.nd rfl (Or.inl rfl)) (ah (jm (i:=4) Lr.nd rfl (Or.inl rfl) (am SS hr rfl (aa (pv 0) (aa (pv 5) ab))) rZ)))
     (ah (ao (ar aR (ar aR (ar aR (aB (aa af ab)) (pv 4)) (am ES IU rfl (aa (pv 0) (aa (aq ax (pv 1) ag (fun _ _=>rfl)) ab)))) (aB (aa af ab))))))),?_⟩
    refine ⟨_,rfl,p,_,_,_,rfl,rfl,KP.of hp,aT,rfl,_,rfl,br (decide_eq_true rfl) ?_⟩
    refine ⟨_,rfl,_,rfl,p,_,_,_,rfl,rfl,KP.of hp,gp,d,ks,a,y,y',w',rfl,hN,hby,ha,hy,hw,by lia,hok.2.1,fun ly H1 s1 n1 e1=>?_⟩
    refine ⟨_,rfl,_,rfl,p,_,_,_,rfl,rfl,KP.of (s1 _ _ hp),Ce,d,ks,bb,n',n'',w',rfl,hN.same s1,hby,hb.kt (al s1),hn',hw,by lia,hok.2.2,fun ln H2 s2 n2 e2=>?_⟩
    have s02:=s1.trans s2
    refine ⟨aW,fun l3 n3=>?_⟩
    generalize zz:aI H2 l3 _=H3
    have s3:KO H2 H3:=zz ▸ ad n3
    have e3:H3 l3=some (.lst (ai ["{","if"])):=zz ▸ ac
    clear zz
    have s03:=s02.trans s3
    refine ⟨_,rfl,_,rfl,p,_,_,_,rfl,rfl,KP.of (s03 _ _ hp),bQ,d,ks,u,t,z,t',rfl,hN.same s03,hu.kt (al s03),ht,fun l4 H4 s4 n4 e4=>?_⟩
    refine cy (s4 _ _ e3) e4 (by simp;lia) fun l5 H5 s5 n5 e5=>?_
    refine ⟨_,rfl,cy e5 ((((s2.trans s3).trans s4).trans s5) _ _ e1) (by simp;lia) fun l6 H6 s6 n6 e6=>?_⟩
    refine ⟨aW,fun l7 n7=>?_⟩
    generalize zz:aI H6 l7 _=H7
    have s7:KO H6 H7:=zz ▸ ad n7
    have e7:H7 l7=some (.lst (ai ["else"])):=zz ▸ ac
    clear zz
    refine cy (s7 _ _ e6) e7 (by simp;lia) fun l8 H8 s8 n8 e8=>?_
    have s28:=((((s3.trans s4).trans s5).trans s6).trans s7).trans s8
    refine ⟨_,rfl,cy e8 (s28 _ _ e2) (by simp;lia) fun l9 H9 s9 n9 e9=>?_⟩
    refine ⟨aW,fun la na=>?_⟩
    generalize zz:aI H9 la _=Ha
    have sa:KO H9 Ha:=zz ▸ ad na
    have ea:Ha la=some (.lst (ai ["}"])):=zz ▸ ac
    clear zz
    have s0a:=((s02.trans s28).trans s9).trans sa
    refine cy (sa _ _ e9) ea (by simp;lia) fun lb Hb sb nb eb=>?_
    refine q _ _ (s0a.trans sb) (s0a.free nb) ?_
    rw [eb]
    simp only [cV,cI,G1,Ho,Ig]
  | @leaf gs gs' e e' hs he=>
   obtain ⟨p,qs,us,u,rfl,hp,hq,Ja,hu⟩:=hV
   have h1:gs.length<=4:=by cases m<;>exact hok.1
   have h2:∀ g∈gs,fG w' g:=by cases m<;>exact hok.2.1
   have h3:=gQ h2
   have h4:=oO e
   have l1:=Ja.length
   have l2:=hs.length
   refine ⟨_,ae (aM (ak be (aq ax (pv 1) ag (fun _ _=>rfl)) af (av _))
      (ae (ap (i:=2) Lr.nd rfl (Or.inl rfl) (am BS hr rfl (aa (pv 0) (aa (aq ax (pv 1) ag (fun _ _=>rfl)) ab))))
      (ae (ap (i:=3) Lr.nd rfl (Or.inl rfl) (am BS hr rfl (aa (pv 0) (aa (aq ax (pv 1) ag (fun _ _=>rfl)) ab))))
      (ah (ao (ar aR (ar aR (ar aR (ar aR (ar aR (aB (aa af (aa af ab))) (am TS IU rfl (aa (pv 0) (aa (aq ax (pv 1) ag (fun _ _=>rfl)) ab)))) (pv 2)) (aB (aa af ab))) (pv 3)) (aB (aa af ab))))))) aH)
     (ae (ap (i:=4) Lr.nd rfl (Or.inl rfl) (aB ab))
     (ae (cr PassesOwn.never rfl (ft (aq ax (pv 1) ag (fun _ _=>rfl))) (az (i:=5) Lr.nd rfl (Or.inl rfl)) (ah (jm (i:=4) Lr.nd rfl (Or.inl rfl) (am SS hr rfl (aa (pv 0) (aa (pv 5) ab))) rZ)))
     (ah (ao (ar aR (ar aR (ar aR (aB (aa af ab)) (pv 4)) (am ES IU rfl (aa (pv 0) (aa (aq ax (pv 1) ag (fun _ _=>rfl)) ab)))) (aB (aa af ab))))))),?_⟩
   refine ⟨_,rfl,p,_,_,_,rfl,rfl,KP.of hp,aT,rfl,_,rfl,aZ (by decide +kernel) ?_⟩
   refine ⟨aW,fun ls n1=>?_⟩
   generalize zz:aI H ls _=H1
   have s1:KO H H1:=zz ▸ ad n1
   have e1:H1 ls=some (.lst (ai [])):=zz ▸ ac
   clear zz
   refine ⟨_,rfl,p,_,_,_,rfl,rfl,KP.of (s1 _ _ hp),bQ,qs,rfl,⟨_,KP.of (s1 _ _ hq)⟩,?_⟩
   refine gD (K:=K) (a:=qs) (xs:=us) (fun i σ H'=>∃ v5:Option V,σ=[some (.ref d),some (.ref p),none,none,some (.ref ls),v5]/\KO H H'/\H' ls=some (.lst (ai (bE (gs.take i))))) ⟨_,rfl,s1,e1⟩ (fun i σ H' _ ⟨_,_,s',_⟩=>KP.of (s' _ _ hq)) ?_ ?_
   ·rintro i x σ H2 hx ⟨v5,rfl,s2,e2⟩
    obtain ⟨g',hg',hgv⟩:=gr Ja hx
    obtain ⟨g,hg,hgn⟩:=qv hs hg'
    have hgm:=h2 g (GM hg)
    have hgl:=oN hgm
    refine ⟨_,rfl,_,rfl,_,rfl,d,ks,x,g,g',rfl,hN.same s2,hby,hgv.kt (al s2),hgn,Cu hw hgm,Ct hgm,by lia,fun lg H3 s3 n3 e3=>?_⟩
    have hst:(bE (gs.take i)).length<=63*4:=by
     have:=gQ (s:=gs.take i) fun g hg=>h2 g (HJ hg)
     have:=GG (i:=i) (l:=gs)
     lia
    have szz:(1000:Nat)<=sizeLine:=by decide
    refine ⟨ls,lg,_,_,rfl,rfl,s3 _ _ e2,e3,by rw [aY,aY];simp only [GB];lia,_,rfl,bK n1 (s2.trans s3),?_⟩
    rw [ac,GX,hg,gM,bV]
    simp [bE]
   ·rintro σ H2 ⟨v5,rfl,s2,e2⟩
    rw [l1,<-l2,GV] at e2
    refine ⟨aW,fun l3 n3=>?_⟩
    generalize zz:aI H2 l3 _=H3
    have s3:KO H2 H3:=zz ▸ ad n3
    have e3:H3 l3=some (.lst (ai ["{"])):=zz ▸ ac
    clear zz
    refine ⟨_,rfl,cy e3 (s3 _ _ e2) (by simp;lia) fun l4 H4 s4 n4 e4=>?_⟩
    have s04:=(s2.trans s3).trans s4
    refine ⟨_,rfl,_,rfl,p,_,_,_,rfl,rfl,KP.of (s04 _ _ hp),gp,d,ks,u,e,e',rfl,hN.same s04,hby,hu.kt (al s04),he,fun l5 H5 s5 n5 e5=>?_⟩
    refine cy (s5 _ _ e4) e5 (by simp;lia) fun l6 H6 s6 n6 e6=>?_
    refine ⟨aW,fun l7 n7=>?_⟩
    generalize zz:aI H6 l7 _=H7
    have s7:KO H6 H7:=zz ▸ ad n7
    have e7:H7 l7=some (.lst (ai ["}"])):=zz ▸ ac
    clear zz
    have s07:=((s04.trans s5).trans s6).trans s7
    refine cy (s7 _ _ e6) e7 (by simp;lia) fun l8 H8 s8 n8 e8=>?_
    refine q _ _ (s07.trans s8) (s07.free n8) ?_
    rw [e8]
    simp only [cV,G1,Ho,Ig]
inductive Na (H:Hp) (d:Addr) (ks:List Ne):Prop
 | mk (kvs:_):H d=some (.dT kvs)->NR kvs ks->kvs.length<=ks.length->Na H d ks
theorem i0 {κ:Type} [DecidableEq κ] (kvs:List (κ×V)) (k:κ) (v:V):(bu kvs k v).length<=kvs.length+1:=by
 unfold bu
 split<;>simp
variable {ks:List Ne} {d:Addr}
theorem Na.same {H H':Hp} (h:Na H d ks) (s:KO H H'):Na H' d ks:=let ⟨kvs,a,b,c⟩:=h;⟨kvs,s _ _ a,b,c⟩
variable {x:Ne}
theorem sf {H0 H:Hp} {d t:Addr} (nd:H0 d=none) (s:KO H0 H) (h:Na H d ks) (hx:gw x∉ks.map gw) (hl:ks.length<=100) (et:H t=some (.tup [.str x.2.1,.str (eC x.2.2.1),.int (x.2.2.2:Nat)])) :
  ∃ H',LA H d (.ref t) (.str x.1) H'/\Na H' d (ks++[x])/\KO H0 H'/\K5 H H':=by
 obtain ⟨kvs,e,hk,l⟩:=h
 have sz:(1000:Nat)<=sizeLine:=by decide
 refine ⟨_,LA.t (k:=gw x) e (by rw [ko];exact et) (by lia),⟨_,ac,hk.put hx,?_⟩,bK nd s,fun b us eb=>?_⟩
 ·have:=i0 kvs (gw x) (.str x.1)
  rw [Gy,List.length_singleton]
  lia
 ·rw [aw]
  ·exact eb
  ·rintro rfl
   rw [e] at eb
   cases eb
variable {y:Ne}
theorem Cv (h:gw x=gw y):x.2.1=y.2.1/\eC x.2.2.1=eC y.2.2.1/\x.2.2.2=y.2.2.2:=by
 unfold gw at h
 obtain ⟨h1,h⟩:=HI h
 obtain ⟨h2,h⟩:=HI h
 obtain ⟨h3,_⟩:=HI h
 exact ⟨Sum.inr.inj h1,Sum.inr.inj h2,Int.ofNat.inj (Sum.inl.inj h3)⟩
variable {i:Nat} {st:Str}
theorem kq {l:List Str} (h:y∈(fO st l).take i):y.2.1=st/\y.2.2.1=false/\y.2.2.2 < i:=by
 obtain ⟨j,hj⟩:=Im h
 rw [List.getElem?_take] at hj
 split at hj
 ·rw [gu] at hj
  cases e:l[j]? with
  | none=>rw [e] at hj;cases hj
  | some z=>rw [e] at hj;cases hj;exact ⟨rfl,rfl,by assumption⟩
 ·cases hj
theorem xE {l:List (Str×Str)} (h:y∈(fN l).take i):y.2.2.1=true/\y.2.2.2 < i:=by
 obtain ⟨j,hj⟩:=Im h
 rw [List.getElem?_take] at hj
 split at hj
 ·rw [qm] at hj
  cases e:l[j]? with
  | none=>rw [e] at hj;cases hj
  | some z=>rw [e] at hj;cases hj;exact ⟨rfl,by assumption⟩
 ·cases hj
theorem i3 {l:List Str} (h:y∈fO st l):y.2.1=st/\y.2.2.1=false:=by
 have:y∈(fO st l).take (fO st l).length:=by rw [GV];exact h
 exact ⟨(kq this).1,(kq this).2.1⟩
theorem Cw {l:List (Str×Str)} (h:y∈fN l):y.2.2.1=true:=by
 have:y∈(fN l).take (fN l).length:=by rw [GV];exact h
 exact (xE this).1
theorem xF:eC false≠eC true:=by decide +kernel
theorem Cy (D:Fm) (fs:List (Str×Str)):xx (eW D++fN fs):=by
 intro z s b n h hs
 have np:("place":Str)≠"number"/\("place":Str)≠"row"/\("mark":Str)≠"number"/\("mark":Str)≠"row":=by decide +kernel
 rcases GP.mp h with h|h
 ·rcases GP.mp h with h|h
  ·have:=(i3 h).1
   have e:s="place":=this
   subst e
   rcases hs with hs|hs
   ·exact absurd hs np.1
   ·exact absurd hs np.2.1
  ·have:=(i3 h).1
   have e:s="mark":=this
   subst e
   rcases hs with hs|hs
   ·exact absurd hs np.2.2.1
   ·exact absurd hs np.2.2.2
 ·exact Cw h
theorem sg (h:∀ y∈ks,¬ (y.2.1=x.2.1/\eC y.2.2.1=eC x.2.2.1/\y.2.2.2=x.2.2.2)):gw x∉ks.map gw:=by
 intro hm
 obtain ⟨y,hy,e⟩:=G0.mp hm
 exact h y hy (Cv e)
variable {zs:List Str}
theorem gR {x:V} (h:(ai zs)[i]?=some x):∃ z,zs[i]?=some z/\x=.str z:=by
 unfold ai at h
 rw [GY] at h
 cases e:zs[i]? with
 | none=>rw [e] at h;cases h
 | some z=>rw [e] at h;exact ⟨z,rfl,(Hd h).symm⟩
inductive Cz (C:Addr) (vs:List V) (H:Hp) (Q:VK) (Z3:XK):Prop
 | mk (v D:_) (x:Kn):vs=[v,.str x.name]->Ly C H v D->mC D->x∈D.kinds->(∀ d H',KO H H'->Nj H' d (eW D++fN x.fs)->Q (.ref d) H')->Cz C vs H Q Z3
theorem Mx:ay ["table","kind","names","i","name","j","sort"] ["table","kind"] (aj lD):=cH (by decide +kernel)
theorem Er (F:K7 K "names_by_number" "names_by_number" lD f fd) (T:Tc K C) (B3:zF mg) (FO:dz P w K mg base C "fields_of" 2 ["self","kind"] (xq C)):KU P w K mg base bY 3 f fd ["table","kind"] (Cz C):=by
 have ZZ:=Mx
 walk_at "o"
 ·obtain ⟨v,D,x,rfl,hT,hD,hx,q⟩:=h
  obtain ⟨a,dx,pp,pm,pn,pk,us,rfl,ho,hpp,hpm,hpn,hpk,Ja⟩:=id hT
  have hu:=dP hr
  obtain ⟨f1,IV,M1,F1,B1⟩:=FO
  have hl3:=(hD.kf x hx).l3
  have hp4:=hD.p4
  have hm3:=hD.m3
  refine ⟨_,ae (ap (i:=2) Mx.nd rfl (Or.inl rfl) wv)
   (bz (fun σ H'=>∃ (d:Addr) (v3 v4 v5 v6:Option V),σ=[some (.ref a),some (.str x.name),some (.ref d),v3,v4,v5,v6]/\H d=none/\KO H H'/\Na H' d (fO "place" D.places)) (cr PassesOwn.never rfl (fe rfl B3.enumerate (aa (bH (pv 0) rfl) ab)) (cB rfl (aA (az (i:=3) Mx.nd rfl (Or.inl rfl)) (aA (az (i:=4) Mx.nd rfl (Or.inl rfl)) bi))) (ah (dQ hu (pv 2) (aC (aa af (aa af (aa (pv 3) ab)))) (pv 4) rfl)))
   (bz (fun σ H'=>∃ (d:Addr) (v3 v4 v5 v6:Option V),σ=[some (.ref a),some (.str x.name),some (.ref d),v3,v4,v5,v6]/\H d=none/\KO H H'/\Na H' d (eW D)) (cr PassesOwn.never rfl (fe rfl B3.enumerate (aa (bH (pv 0) rfl) ab)) (cB rfl (aA (az (i:=3) Mx.nd rfl (Or.inl rfl)) (aA (az (i:=4) Mx.nd rfl (Or.inl rfl)) bi))) (ah (dQ hu (pv 2) (aC (aa af (aa af (aa (pv 3) ab)))) (pv 4) rfl)))
   (ae (cr PassesOwn.never rfl (fe rfl B3.enumerate (aa (KZ (pv 0) (aa (pv 1) ab)) ab)) (cB rfl (aA (az (i:=5) Mx.nd rfl (Or.inl rfl)) (aA (cB rfl (aA (az (i:=4) Mx.nd rfl (Or.inl rfl)) (aA (az (i:=6) Mx.nd rfl (Or.inl rfl)) bi))) bi))) (ah (dQ hu (pv 2) (aC (aa (pv 6) (aa af (aa (pv 5) ab)))) (pv 4) rfl)))
   (ah (ao (pv 2)))))),?_⟩
  refine fun d nd=>?_
  have s1:=ad (o:=.dT []) nd
  have I1:Na (aI H d (.dT [])) d []:=⟨[],ac,(fun y hy=>by cases hy),GE _⟩
  generalize aI H d (.dT ([]:List (List cE×V)))=H1 at *
  refine ⟨?_,?_⟩
  ·rintro σ H2 ⟨d,v3,v4,v5,v6,rfl,nd,s2,I2⟩
   refine ⟨?_,?_⟩
   ·rintro σ H3 ⟨d,v3,v4,v5,v6,rfl,nd,s3,I3⟩
    refine ⟨_,rfl,a,dx,C,f1,_,IV,2,["self","kind"],_,rfl,s3 _ _ ho,rfl,T.cl,M1,F1,hr,B1,_,rfl,_,D,x,rfl,hT.same s3,hD,hx,fun tf fu htf hfu=>?_⟩
    have lf:=hfu.length
    refine ⟨tf,rfl,⟨_,KP.of htf⟩,?_⟩
    refine dY (K:=K) (l:=tf) (xs:=fu) (fun i σ H'=>∃ v3 v4 v5 v6:Option V,σ=[some (.ref a),some (.str x.name),some (.ref d),v3,v4,v5,v6]/\KO H H'/\H' tf=some (.tup fu)/\K5 H3 H'/\Na H' d (eW D++(fN x.fs).take i)) ⟨_,_,_,_,rfl,s3,htf,fun _ _ e=>e,by simpa using I3⟩ (fun i σ H' _ ⟨_,_,_,_,_,_,t',_⟩=>KP.of t') ?_ ?_
    ·rintro i y σ H4 T1 hy nT ⟨v3,v4,v5,v6,rfl,s4,t4,k4,I4⟩
     obtain ⟨z,hz,pf,rfl,hpf⟩:=gr hfu hy
     have Je:i < x.fs.length:=(GA.mp hz).1
     have s5:=ad (o:=.tup [.int (i:Int),.ref pf]) nT
     refine ⟨T1,_,rfl,KP.of ac,rfl,_,_,rfl,_,_,rfl,⟨pf,_,rfl,KP.of (s5 _ _ (k4 _ _ hpf)),rfl,_,_,rfl,_,_,rfl,rfl,rfl,?_⟩⟩
     generalize aI H4 T1 (.tup [V.int (i:Int),.ref pf])=H5 at *
     refine ⟨_,rfl,_,rfl,_,rfl,_,rfl,aW,fun t nt=>?_⟩
     have s6:=ad (o:=.tup [.str z.2,.str "by",.int (i:Int)]) nt
     have e6:(aI H5 t (.tup [.str z.2,.str "by",.int (i:Int)])) t=some (.tup [.str z.2,.str "by",.int (i:Int)]):=ac
     generalize aI H5 t (.tup [V.str z.2,.str "by",.int (i:Int)])=H6 at *
     have s56:=s5.trans s6
     obtain ⟨H7,p7,I7,s7,kt7⟩:=sf (x:=(z.1,z.2,true,i)) nd (s4.trans s56) (I4.same s56) (sg fun y hy=>by
       rcases GP.mp hy with hy|hy
       ·rcases GP.mp hy with hy|hy
        ·intro e
         have:=e.2.1
         rw [(i3 hy).2] at this
         exact xF this
        ·intro e
         have:=e.2.1
         rw [(i3 hy).2] at this
         exact xF this
       ·intro e
        have:=(xE hy).2
        have h3:y.2.2.2=i:=e.2.2
        lia) (by
       unfold eW
       rw [Gy,Gy,cC,cC,GG,lQ]
       lia) e6
     refine ⟨d,H7,rfl,p7,_,_,_,_,rfl,s7,kt7 _ _ (s56 _ _ t4),fun b us e=>kt7 _ _ (s56 _ _ (k4 _ _ e)),?_⟩
     rw [GX,qm,hz]
     rw [G1] at I7
     exact I7
    ·rintro σ H4 ⟨v3,v4,v5,v6,rfl,s4,t4,k4,kvs,e4,I4,_⟩
     rw [lf,<-lQ,GV] at I4
     exact ⟨_,rfl,q d H4 s4 ⟨kvs,e4,I4⟩⟩
   ·refine ⟨_,rfl,a,C,dx,_,_,rfl,s2 _ _ ho,T.cl,T.na "marks" (by decide +kernel),rfl,pm,rfl,⟨_,KP.of (s2 _ _ hpm)⟩,?_⟩
    refine dY (K:=K) (l:=pm) (xs:=ai D.marks) (fun i σ H'=>∃ v3 v4 v5 v6:Option V,σ=[some (.ref a),some (.str x.name),some (.ref d),v3,v4,v5,v6]/\KO H H'/\Na H' d (fO "place" D.places++(fO "mark" D.marks).take i)) ⟨_,_,_,_,rfl,s2,by simpa using I2⟩ (fun i σ H' _ ⟨_,_,_,_,_,s',_⟩=>KP.of (s' _ _ hpm)) ?_ ?_
    ·rintro i y σ H4 T1 hy nT ⟨v3,v4,v5,v6,rfl,s4,I4⟩
     obtain ⟨z,hz,rfl⟩:=gR hy
     have Je:i < D.marks.length:=(GA.mp hz).1
     have s5:=ad (o:=.tup [.int (i:Int),.str z]) nT
     refine ⟨T1,_,rfl,KP.of ac,rfl,_,_,rfl,_,_,rfl,rfl,?_⟩
     generalize aI H4 T1 (.tup [V.int (i:Int),.str z])=H5 at *
     refine ⟨_,rfl,_,rfl,_,rfl,aW,fun t nt=>?_⟩
     have s6:=ad (o:=.tup [.str "mark",.str "is",.int (i:Int)]) nt
     have e6:(aI H5 t (.tup [.str "mark",.str "is",.int (i:Int)])) t=some (.tup [.str "mark",.str "is",.int (i:Int)]):=ac
     generalize aI H5 t (.tup [V.str "mark",.str "is",.int (i:Int)])=H6 at *
     have s56:=s5.trans s6
     obtain ⟨H7,p7,I7,s7,_⟩:=sf (x:=(z,"mark",false,i)) nd (s4.trans s56) (I4.same s56) (sg fun y hy=>by
       rcases GP.mp hy with hy|hy
       ·intro e
        have h1:=e.1
        rw [(i3 hy).1] at h1
        exact absurd h1 (by show ("place":Str)≠"mark";decide +kernel)
       ·intro e
        have:=(kq hy).2.2
        have h3:y.2.2.2=i:=e.2.2
        lia) (by
       rw [Gy,cC,GG,cC]
       lia) e6
     refine ⟨d,H7,rfl,p7,_,_,_,_,rfl,s7,?_⟩
     rw [GX,gu,hz]
     rw [G1] at I7
     exact I7
    ·rintro σ H4 ⟨v3,v4,v5,v6,rfl,s4,I4⟩
     rw [aY,<-cC "mark",GV] at I4
     exact ⟨d,_,_,_,_,rfl,nd,s4,I4⟩
  ·refine ⟨_,rfl,a,C,dx,_,_,rfl,s1 _ _ ho,T.cl,T.na "places" (by decide +kernel),rfl,pp,rfl,⟨_,KP.of (s1 _ _ hpp)⟩,?_⟩
   refine dY (K:=K) (l:=pp) (xs:=ai D.places) (fun i σ H'=>∃ v3 v4 v5 v6:Option V,σ=[some (.ref a),some (.str x.name),some (.ref d),v3,v4,v5,v6]/\KO H H'/\Na H' d ((fO "place" D.places).take i)) ⟨_,_,_,_,rfl,s1,by simpa using I1⟩ (fun i σ H' _ ⟨_,_,_,_,_,s',_⟩=>KP.of (s' _ _ hpp)) ?_ ?_
   ·rintro i y σ H4 T1 hy nT ⟨v3,v4,v5,v6,rfl,s4,I4⟩
    obtain ⟨z,hz,rfl⟩:=gR hy
    have Je:i < D.places.length:=(GA.mp hz).1
    have s5:=ad (o:=.tup [.int (i:Int),.str z]) nT
    refine ⟨T1,_,rfl,KP.of ac,rfl,_,_,rfl,_,_,rfl,rfl,?_⟩
    generalize aI H4 T1 (.tup [V.int (i:Int),.str z])=H5 at *
    refine ⟨_,rfl,_,rfl,_,rfl,aW,fun t nt=>?_⟩
    have s6:=ad (o:=.tup [.str "place",.str "is",.int (i:Int)]) nt
    have e6:(aI H5 t (.tup [.str "place",.str "is",.int (i:Int)])) t=some (.tup [.str "place",.str "is",.int (i:Int)]):=ac
    generalize aI H5 t (.tup [V.str "place",.str "is",.int (i:Int)])=H6 at *
    have s56:=s5.trans s6
    obtain ⟨H7,p7,I7,s7,_⟩:=sf (x:=(z,"place",false,i)) nd (s4.trans s56) (I4.same s56) (sg fun y hy=>by
       intro e
       have:=(kq hy).2.2
       have h3:y.2.2.2=i:=e.2.2
       lia) (by
       rw [GG,cC]
       lia) e6
    refine ⟨d,H7,rfl,p7,_,_,_,_,rfl,s7,?_⟩
    rw [GX,gu,hz]
    exact I7
   ·rintro σ H4 ⟨v3,v4,v5,v6,rfl,s4,I4⟩
    rw [aY,<-cC "place",GV] at I4
    exact ⟨d,_,_,_,_,rfl,nd,s4,I4⟩
def cK (D:Fm):List Str:=[("word":Str),(toString (D.width:Int):Str),";","cells",(toString (D.cells:Int):Str),";","depth",(toString (D.depth:Int):Str),";"]++([("places":Str)]++D.places++[(";":Str)])++([("marks":Str)]++D.marks++[(";":Str)])++[("gate":Str)]++D.gates++[(";":Str)]
def i4 (fs:List (Str×Str)):List Str:=fs.flatMap fun x=>[x.1,x.2,","]
def cW (fs:List (Str×Str)):List Str:=(i4 fs).take ((i4 fs).length - 1)
def bF (x:Kn):List Str:=[("kind":Str),x.name,("(":Str)]++cW x.fs++[(")":Str)]++cV x.bd
theorem xG (xs:List V):iL xs none (some (-1))=xs.take (xs.length - 1):=by
 unfold iL HT.sIx
 simp only [List.drop_zero,Nat.sub_zero]
 congr 1
 simp
 lia
theorem jL (zs:List Str) (n:Nat):(ai zs).take n=ai (zs.take n):=by unfold ai;rw [List.map_take]
theorem i5 (fs:List (Str×Str)):(i4 fs).length=3*fs.length:=by
 induction fs with
 | nil=>rfl
 | cons x r ih=>
  unfold i4 at *
  rw [HX,Gy,ih]
  simp
  lia
inductive sh (C:Addr) (vs:List V) (H:Hp) (Q:VK) (Z3:XK):Prop
 | mk (v D:_):vs=[v]->Ly C H v D->mC D->D.width<=1000->D.cells<=1000->D.depth<=1000->(∀ l H',KO H H'->H l=none->H' l=some (.lst (ai (cK D)))->Q (.ref l) H')->sh C vs H Q Z3
inductive CA (C:Addr) (vs:List V) (H:Hp) (Q:VK) (Z3:XK):Prop
 | mk (v D:_) (x:Kn):vs=[v,.str x.name]->Ly C H v D->mC D->x∈D.kinds->D.width<=24->dq D.width 3 x.bd->(∀ l H',KO H H'->H l=none->H' l=some (.lst (ai (bF x)))->Q (.ref l) H')->CA C vs H Q Z3
theorem Mb:ay ["table","gates","numbers","places","marks"] ["table"] (aj ip):=cH (by decide +kernel)
theorem zO (F:K7 K "head_shown" "head_shown" ip f fd) (T:Tc K C) (B:Bl mg):KU P w K mg base bY 1 f fd ["table"] (sh C):=by
 have ZZ:=Mb
 walk_at "o"
 ·obtain ⟨v,D,rfl,hT,hD,hw,hc,hd,q⟩:=h
  obtain ⟨a,dx,pp,pm,pn,pk,us,rfl,ho,hpp,hpm,hpn,hpk,Ja⟩:=id hT
  have hp4:=hD.p4
  have hm3:=hD.m3
  have hg1:=hD.g1
  refine ⟨_,bz (fun σ H'=>∃ lg,σ=[some (.ref a),some (.ref lg),none,none,none]/\KO H H'/\H' lg=some (.lst (ai D.gates))) (ap (i:=1) Mb.nd rfl (Or.inl rfl) (pE (ak BA (bH (pv 0) rfl) kI (av _)) (aB ab) (aB (aa (bH (pv 0) rfl) ab))))
   (ae (ap (i:=2) Mb.nd rfl (Or.inl rfl) (aB (aa af (aa (aU ce (by rfl) B.str cb (aa (bH (pv 0) rfl) ab)) (aa af (aa af (aa (aU ce (by rfl) B.str cb (aa (bH (pv 0) rfl) ab)) (aa af (aa af (aa (aU ce (by rfl) B.str cb (aa (bH (pv 0) rfl) ab)) (aa af ab)))))))))))
   (ae (ap (i:=3) Mb.nd rfl (Or.inl rfl) (ar aR (ar aR (aB (aa af ab)) (aU fz (by rfl) B.list fE (aa (bH (pv 0) rfl) ab))) (aB (aa af ab))))
   (ae (ap (i:=4) Mb.nd rfl (Or.inl rfl) (ar aR (ar aR (aB (aa af ab)) (aU fz (by rfl) B.list fE (aa (bH (pv 0) rfl) ab))) (aB (aa af ab))))
   (ah (ao (ar aR (ar aR (ar aR (ar aR (ar aR (pv 2) (pv 3)) (pv 4)) (aB (aa af ab))) (pv 1)) (aB (aa af ab)))))))),?_⟩
  refine ⟨?_,?_⟩
  ·rintro σ H1 ⟨lg,rfl,s1,e1⟩
   have ho1:=s1 _ _ ho
   refine ⟨_,rfl,a,C,dx,_,_,rfl,ho1,T.cl,T.na "width" (by decide +kernel),rfl,_,rfl,di (by lia),_,rfl,a,C,dx,_,_,rfl,ho1,T.cl,T.na "cells" (by decide +kernel),rfl,_,rfl,di (by lia),_,rfl,a,C,dx,_,_,rfl,ho1,T.cl,T.na "depth" (by decide +kernel),rfl,_,rfl,di (by lia),?_⟩
   refine ⟨aW,fun l2 n2=>?_⟩
   generalize zz:aI H1 l2 _=H2
   have s2:KO H1 H2:=zz ▸ ad n2
   have e2:H2 l2=some (.lst (ai ["word",(toString (D.width:Int):Str),";","cells",(toString (D.cells:Int):Str),";","depth",(toString (D.depth:Int):Str),";"])):=zz ▸ ac
   clear zz
   have s02:=s1.trans s2
   refine ⟨aW,fun l3 n3=>?_⟩
   generalize zz:aI H2 l3 _=H3
   have s3:KO H2 H3:=zz ▸ ad n3
   have e3:H3 l3=some (.lst (ai ["places"])):=zz ▸ ac
   clear zz
   have s03:=s02.trans s3
   refine ⟨_,rfl,a,C,dx,_,_,rfl,s03 _ _ ho,T.cl,T.na "places" (by decide +kernel),rfl,pp,_,rfl,.inr (KP.of (s03 _ _ hpp)),fun l4 n4=>?_⟩
   generalize zz:aI H3 l4 _=H4
   have s4:KO H3 H4:=zz ▸ ad n4
   have e4:H4 l4=some (.lst (ai D.places)):=zz ▸ ac
   clear zz
   refine cy (s4 _ _ e3) e4 (by simp;lia) fun l5 H5 s5 n5 e5=>?_
   refine ⟨aW,fun l6 n6=>?_⟩
   generalize zz:aI H5 l6 _=H6
   have s6:KO H5 H6:=zz ▸ ad n6
   have e6:H6 l6=some (.lst (ai [";"])):=zz ▸ ac
   clear zz
   refine cy (s6 _ _ e5) e6 (by simp;lia) fun l7 H7 s7 n7 e7=>?_
   have s07:=(((s03.trans s4).trans s5).trans s6).trans s7
   have s27:=((((s3.trans s4).trans s5).trans s6).trans s7)
   refine ⟨aW,fun m3 o3=>?_⟩
   generalize zz:aI H7 m3 _=G3
   have r3:KO H7 G3:=zz ▸ ad o3
   have f3:G3 m3=some (.lst (ai ["marks"])):=zz ▸ ac
   clear zz
   have t03:=s07.trans r3
   refine ⟨_,rfl,a,C,dx,_,_,rfl,t03 _ _ ho,T.cl,T.na "marks" (by decide +kernel),rfl,pm,_,rfl,.inr (KP.of (t03 _ _ hpm)),fun m4 o4=>?_⟩
   generalize zz:aI G3 m4 _=G4
   have r4:KO G3 G4:=zz ▸ ad o4
   have f4:G4 m4=some (.lst (ai D.marks)):=zz ▸ ac
   clear zz
   refine cy (r4 _ _ f3) f4 (by simp;lia) fun m5 G5 r5 o5 f5=>?_
   refine ⟨aW,fun m6 o6=>?_⟩
   generalize zz:aI G5 m6 _=G6
   have r6:KO G5 G6:=zz ▸ ad o6
   have f6:G6 m6=some (.lst (ai [";"])):=zz ▸ ac
   clear zz
   refine cy (r6 _ _ f5) f6 (by simp;lia) fun m7 G7 r7 o7 f7=>?_
   have r07:=((((r3.trans r4).trans r5).trans r6).trans r7)
   refine ⟨_,rfl,_,rfl,cy ((s27.trans r07) _ _ e2) (r07 _ _ e7) (by simp;lia) fun k1 F1 u1 w1 g1=>?_⟩
   refine ⟨_,rfl,cy g1 (u1 _ _ f7) (by simp;lia) fun k2 F2 u2 w2 g2=>?_⟩
   refine ⟨aW,fun k3 w3=>?_⟩
   generalize zz:aI F2 k3 _=F3
   have u3:KO F2 F3:=zz ▸ ad w3
   have g3:F3 k3=some (.lst (ai ["gate"])):=zz ▸ ac
   clear zz
   refine cy (u3 _ _ g2) g3 (by simp;lia) fun k4 F4 u4 w4 g4=>?_
   have u04:=(((((s2.trans s27).trans r07).trans u1).trans u2).trans u3).trans u4
   refine ⟨_,rfl,cy g4 (u04 _ _ e1) (by simp;lia) fun k5 F5 u5 w5 g5=>?_⟩
   refine ⟨aW,fun k6 w6=>?_⟩
   generalize zz:aI F5 k6 _=F6
   have u6:KO F5 F6:=zz ▸ ad w6
   have g6:F6 k6=some (.lst (ai [";"])):=zz ▸ ac
   clear zz
   have u06:=((s1.trans u04).trans u5).trans u6
   refine cy (u6 _ _ g5) g6 (by simp;lia) fun k7 F7 u7 w7 g7=>?_
   exact q _ _ (u06.trans u7) (u06.free w7) g7
  ·refine ⟨_,rfl,a,C,dx,_,_,rfl,ho,T.cl,T.na "gate" (by decide +kernel),rfl,rfl,_,rfl,?_⟩
   cases hgs:D.gates with
   | nil=>
    have eg:eL D=.non:=by unfold eL;rw [hgs]
    refine br (by rw [eg];rfl) ⟨aW,fun lg ng=>⟨lg,rfl,ad ng,ac⟩⟩
   | cons z r=>
    have er:r=[]:=by rw [hgs] at hg1;simp only [GB] at hg1;exact List.eq_nil_of_length_eq_zero (by lia)
    subst er
    have eg:eL D=.str z:=by unfold eL;rw [hgs]
    refine aZ (by rw [eg];rfl) ⟨_,rfl,a,C,dx,_,_,rfl,ho,T.cl,T.na "gate" (by decide +kernel),rfl,aW,fun lg ng=>⟨lg,rfl,ad ng,?_⟩⟩
    rw [eg]
    exact ac
theorem M8:ay ["table","kind","fields","name","sort","body"] ["table","kind"] (aj iq):=cH (by decide +kernel)
theorem Es (F:K7 K "kind_shown" "kind_shown" iq f fd) (T:Tc K C) (FO:dz P w K mg base C "fields_of" 2 ["self","kind"] (xq C)) (DE:dz P w K mg base C "deed" 2 ["self","kind"] (km C)) (NB:Fn P w K mg base "names_by_number" 3 ["table","kind"] (Cz C)) (BS:Fn P w K mg base "body_shown" n ["names","deed"] (tP 4)) (hn:3<=n):KU P w K mg base bY (n+1) f fd ["table","kind"] (CA C):=by
 have ZZ:=M8
 walk_at "o"
 ·obtain ⟨v,D,x,rfl,hT,hD,hx,hw,hbo,q⟩:=h
  obtain ⟨a,dx,pp,pm,pn,pk,us,rfl,ho,hpp,hpm,hpn,hpk,Ja⟩:=id hT
  have IU:KY 2 _:=hr.mono (by lia)
  have hr3:KY 3 _:=hr.mono (by lia)
  obtain ⟨f1,IV,M1,F1,B1⟩:=FO
  obtain ⟨f2,fd2,M2,F2,B2⟩:=DE
  have hl3:=(hD.kf x hx).l3
  have hbl:=dS hbo
  have sz:(1000:Nat)<=sizeLine:=by decide
  refine ⟨_,ae (ap (i:=2) M8.nd rfl (Or.inl rfl) (aB ab))
   (ae (cr PassesOwn.never rfl (ft (KZ (pv 0) (aa (pv 1) ab))) (cB rfl (aA (az (i:=3) M8.nd rfl (Or.inl rfl)) (aA (az (i:=4) M8.nd rfl (Or.inl rfl)) bi))) (ah (jm (i:=2) M8.nd rfl (Or.inl rfl) (aB (aa (pv 3) (aa (pv 4) (aa af ab)))) rZ)))
   (ae (ap (i:=5) M8.nd rfl (Or.inl rfl) (am BS hr rfl (aa (am NB hr3 rfl (aa (pv 0) (aa (pv 1) ab))) (aa (KZ (pv 0) (aa (pv 1) ab)) ab))))
   (ah (ao (ar aR (ar aR (ar aR (aB (aa af (aa (pv 1) (aa af ab)))) (dE j9 (pv 2) j8 (da (DL By ag)))) (aB (aa af ab))) (pv 5)))))),?_⟩
  refine ⟨aW,fun ls n1=>?_⟩
  generalize zz:aI H ls _=H1
  have s1:KO H H1:=zz ▸ ad n1
  have e1:H1 ls=some (.lst (ai [])):=zz ▸ ac
  clear zz
  refine ⟨_,rfl,a,dx,C,f1,_,IV,2,["self","kind"],_,rfl,s1 _ _ ho,rfl,T.cl,M1,F1,IU,B1,_,rfl,_,D,x,rfl,hT.same s1,hD,hx,fun tf fu htf hfu=>?_⟩
  have lf:=hfu.length
  refine ⟨tf,rfl,⟨_,KP.of htf⟩,?_⟩
  refine gD (K:=K) (a:=tf) (xs:=fu) (fun i σ H'=>∃ v3 v4:Option V,σ=[some (.ref a),some (.str x.name),some (.ref ls),v3,v4,none]/\KO H H'/\K5 H1 H'/\H' ls=some (.lst (ai (i4 (x.fs.take i))))) ⟨_,_,rfl,s1,fun _ _ e=>e,e1⟩ (fun i σ H' _ ⟨_,_,_,_,k',_⟩=>KP.of (k' _ _ htf)) ?_ ?_
  ·rintro i y σ H2 hy ⟨v3,v4,rfl,s2,k2,e2⟩
   obtain ⟨z,hz,pf,rfl,hpf⟩:=gr hfu hy
   refine ⟨pf,_,rfl,KP.of (k2 _ _ hpf),rfl,_,_,rfl,_,_,rfl,rfl,?_⟩
   refine ⟨_,rfl,_,rfl,_,rfl,aW,fun lg ng=>?_⟩
   have s3:=ad (o:=.lst [.str z.1,.str z.2,.str ","]) ng
   have e3:(aI H2 lg (.lst [.str z.1,.str z.2,.str ","])) lg=some (.lst (ai [z.1,z.2,","])):=ac
   generalize aI H2 lg (.lst [V.str z.1,.str z.2,.str ","])=H3 at *
   have e23:=s3 _ _ e2
   refine ⟨ls,lg,_,_,rfl,rfl,e23,e3,?_,_,_,rfl,bK n1 (s2.trans s3),fun b us' e=>?_,?_⟩
   ·rw [aY,aY,i5,GG]
    simp only [GB,GL]
    lia
   ·rw [aw]
    ·exact s3 _ _ (k2 _ _ e)
    ·rintro rfl
     have:=k2 _ _ e
     rw [e2] at this
     cases this
   ·rw [ac,GX,hz,bV]
    unfold i4
    rw [List.flatMap_append]
    rfl
  ·rintro σ H2 ⟨v3,v4,rfl,s2,k2,e2⟩
   rw [lf,GV] at e2
   refine ⟨_,rfl,_,rfl,_,D,x,rfl,hT.same s2,hD,hx,fun d H3 s3 I3=>?_⟩
   have s03:=s2.trans s3
   refine ⟨_,rfl,a,dx,C,f2,_,fd2,2,["self","kind"],_,rfl,s03 _ _ ho,rfl,T.cl,M2,F2,IU,B2,_,rfl,_,D,x,rfl,hT.same s03,hD,hx,fun b hb=>?_⟩
   refine ⟨d,_,b,x.bd,x.dd,D.width,rfl,I3,Cy D x.fs,hb,(hD.kf x hx).bn,hw,by decide,hbo,fun lb H4 s4 n4 e4=>?_⟩
   refine ⟨_,rfl,aW,fun l5 n5=>?_⟩
   have s5:=ad (o:=.lst [.str "kind",.str x.name,.str "("]) n5
   have e5:(aI H4 l5 (.lst [.str "kind",.str x.name,.str "("])) l5=some (.lst (ai ["kind",x.name,"("])):=ac
   generalize aI H4 l5 (.lst [V.str "kind",.str x.name,.str "("])=H5 at *
   refine ⟨_,rfl,1,rfl,_,rfl,ls,_,rfl,KW.of (((s3.trans s4).trans s5) _ _ e2),fun l6 n6=>?_⟩
   have ec:iL (ai (i4 x.fs)) none (some (-1))=ai (cW x.fs):=by
    rw [xG,jL,aY]
    rfl
   have ec':iL (ai (i4 x.fs)) none (some (-(1:Int)))=ai (cW x.fs):=ec
   rw [ec']
   generalize zz:aI H5 l6 _=H6
   have s6:KO H5 H6:=zz ▸ ad n6
   have e6:H6 l6=some (.lst (ai (cW x.fs))):=zz ▸ ac
   clear zz
   have hft:(cW x.fs).length<=9:=by
    unfold cW
    rw [GG,i5]
    lia
   refine cy (s6 _ _ e5) e6 (by simp;lia) fun l7 H7 s7 n7 e7=>?_
   refine ⟨aW,fun l8 n8=>?_⟩
   generalize zz:aI H7 l8 _=H8
   have s8:KO H7 H8:=zz ▸ ad n8
   have e8:H8 l8=some (.lst (ai [")"])):=zz ▸ ac
   clear zz
   refine cy (s8 _ _ e7) e8 (by simp;lia) fun l9 H9 s9 n9 e9=>?_
   have s49:=(((s5.trans s6).trans s7).trans s8).trans s9
   have s09:=(s03.trans s4).trans s49
   refine ⟨_,rfl,cy e9 (s49 _ _ e4) (by simp;lia) fun la Ha sa na ea=>?_⟩
   refine q _ _ (s09.trans sa) (s09.free na) ?_
   rw [ea]
   rfl
def cp (z:Str):List Nat:=z.cps.toList
theorem eX (z:Str):S (cp z)=z:=(wD z).symm
theorem fh (l:List Nat):cp (S l)=l:=rfl
theorem lU (l:List Str):(l.map cp).map S=l:=by
 rw [Hz]
 refine Eq.trans ?_ (List.map_id l)
 exact List.map_congr_left fun z _=>eX z
theorem gx (sep:List Nat):∀ ts:List (List Nat),(S sep).join (ts.map S)=S (TK.jn sep ts)
 | []=>rfl
 | [t]=>rfl
 | t::u::r=>by
  have ih:=gx sep (u::r)
  show S t++S sep++(S sep).join ((u::r).map S)=S (t++(sep++TK.jn sep (u::r)))
  rw [ih,bA,bA,G1]
theorem A1 (c:Nat) (t u:List Nat) (r:List (List Nat)):c∈TK.jn [c] (t::u::r):=by
 show c∈t++([c]++TK.jn [c] (u::r))
 simp
variable {c:Nat}
theorem xH:∀ {a b x y:List Nat},c∉a->c∉b->a++(c::x)=b++(c::y)->a=b/\x=y
 | [],[],x,y,_,_,h=>by simpa using h
 | [],b::bs,x,y,_,hb,h=>by
  simp at h
  exact absurd (h.1 ▸ Gz) hb
 | a::as,[],x,y,ha,_,h=>by
  simp at h
  exact absurd (h.1 ▸ Gz) ha
 | a::as,b::bs,x,y,ha,hb,h=>by
  simp at h
  obtain ⟨h1,h2⟩:=h
  obtain ⟨h3,h4⟩:=xH (a:=as) (b:=bs) (fun z=>ha (GD _ z)) (fun z=>hb (GD _ z)) h2
  exact ⟨by rw [h1,h3],h4⟩
theorem xI:∀ {a b:List (List Nat)},a≠[]->b≠[]->(∀ t∈a,c∉t)->(∀ t∈b,c∉t)->TK.jn [c] a=TK.jn [c] b->a=b
 | [],_,h,_,_,_,_=>absurd rfl h
 | _,[],_,h,_,_,_=>absurd rfl h
 | [t],[u],_,_,_,_,h=>by
  have:t=u:=h
  rw [this]
 | [t],u::v::r,_,_,ha,_,h=>by
  have h1:t=TK.jn [c] (u::v::r):=h
  exact absurd (h1 ▸ A1 c u v r) (ha t Gz)
 | t::s::q,[u],_,_,_,hb,h=>by
  have h1:TK.jn [c] (t::s::q)=u:=h
  exact absurd (h1 ▸ A1 c t s q) (hb u Gz)
 | t::s::q,u::v::r,_,_,ha,hb,h=>by
  have h1:t++(c::TK.jn [c] (s::q))=u++(c::TK.jn [c] (v::r)):=h
  obtain ⟨h2,h3⟩:=xH (ha t Gz) (hb u Gz) h1
  have:=xI (a:=s::q) (b:=v::r) (by simp) (by simp) (fun z hz=>ha z (GD _ hz)) (fun z hz=>hb z (GD _ hz)) h3
  rw [h2,this]
theorem qw (c:Nat) (ts:List (List Nat)) (h0:TK.jn [c] ts≠[]) (hf:∀ t∈ts,c∉t):Txt.split (S (TK.jn [c] ts)) (S [c])=ts.map S:=by
 have h1:=StrLaws.join_split (S (TK.jn [c] ts)) (S [c])
 have h2:=StrLaws.split_free (S (TK.jn [c] ts)) c
 have hS:(⟨#[c]⟩:Str)=S [c]:=rfl
 rw [hS] at h2
 generalize Txt.split (S (TK.jn [c] ts)) (S [c])=ps at h1 h2
 have h3:=lU ps
 rw [<-h3,gx] at h1
 have h4:TK.jn [c] (ps.map cp)=TK.jn [c] ts:=by
  have:=congrArg cp h1
  rw [fh,fh] at this
  exact this
 have n1:ps.map cp≠[]:=by
  intro e
  rw [e] at h4
  exact h0 h4.symm
 have n2:ts≠[]:=by
  intro e
  rw [e] at h0
  exact h0 rfl
 have h5:=xI n1 n2 (fun t ht=>by
  obtain ⟨p,hp,rfl⟩:=G0.mp ht
  exact h2 p hp) hf h4
 rw [<-h5,h3]
theorem sj (sep:List Nat):∀ ts:List (List Nat),(TK.jn sep ts).length<=(ts.map List.length).sum+ts.length*sep.length
 | []=>by simp [TK.jn]
 | [t]=>by simp [TK.jn]
 | t::u::r=>by
  have ih:=sj sep (u::r)
  show (t++(sep++TK.jn sep (u::r))).length<=_
  rw [Gy,Gy]
  simp only [GO,Ir,GB] at ih ⊢
  have:(r.length+1+1)*sep.length=(r.length+1)*sep.length+sep.length:=by rw [Nat.add_mul (r.length+1) 1,Nat.one_mul]
  lia
theorem iB (k:Nat):∀ ts:List (List Nat),(∀ t∈ts,t.length<=k)->(ts.map List.length).sum<=ts.length*k
 | [],_=>by simp
 | t::r,h=>by
  have ih:=iB k r (fun t ht=>h t (GD _ ht))
  have:=h t Gz
  simp only [GO,Ir,GB]
  have:(r.length+1)*k=r.length*k+k:=by rw [Nat.add_mul,Nat.one_mul]
  lia
theorem jZ:(" ":Str)=S [32]:=by decide +kernel
theorem CB:("\n":Str)=S [10]:=by decide +kernel
def cX (ts:List (List Nat)):List V:=ts.map fun t=>V.str (S t)
theorem gy (zs:List Str):cX (zs.map cp)=ai zs:=by
 unfold cX ai
 rw [Hz]
 refine List.map_congr_left fun z _=>?_
 show V.str (S (cp z))=V.str z
 rw [eX]
theorem cL (ts:List (List Nat)):(cX ts).length=ts.length:=by unfold cX;rw [GC]
def bL (D:Fm):List Str:=cK D++D.kinds.flatMap bF
def au (zs:List Str):List Nat:=TK.jn [32] (zs.map cp)
def eD (D:Fm) (ks:List Kn):List (List Nat):=au (cK D)::ks.map fun x=>au (bF x)
def c8 (D:Fm):List Nat:=TK.jn [10] (eD D D.kinds)
structure A2 (D:Fm):Prop where
 ok:mC D
 w:D.width<=24
 c:D.cells<=1000
 d:D.depth<=1000
 bo:∀ x∈D.kinds,dq D.width 3 x.bd
 tl:(bL D).length<=1500
 t8:∀ z∈bL D,(cp z).length<=25
inductive tQ (C:Addr) (vs:List V) (H:Hp) (Q:VK) (Z3:XK):Prop
 | mk (v D:_):vs=[v]->Ly C H v D->A2 D->(∀ H',KO H H'->Q (.str (S (c8 D))) H')->tQ C vs H Q Z3
theorem i6 (h1:zs.length<=1500) (h2:∀ z∈zs,(cp z).length<=25):((zs.map cp).map List.length).sum+(zs.map cp).length*[32].length<=100000/\(au zs).length<=zs.length*26:=by
 have h3:=iB 25 (zs.map cp) fun t ht=>by
  obtain ⟨z,hz,rfl⟩:=G0.mp ht
  exact h2 z hz
 have h4:=sj [32] (zs.map cp)
 rw [GC] at *
 simp only [GB,GL] at *
 unfold au
 lia
theorem mX {zs:List Kn} (h:∀ x∈zs,(au (bF x)).length<=(bF x).length*26):((zs.map fun x=>au (bF x)).map List.length).sum<=(zs.flatMap bF).length*26:=by
 induction zs with
 | nil=>exact GE _
 | cons x r ih=>
  have h1:=h x Gz
  have h2:=ih fun y hy=>h y (GD _ hy)
  rw [HX,Gy,GO,GO,Ir]
  lia
theorem xJ {D:Fm} {x:Kn} (hx:x∈D.kinds):∀ z∈bF x,z∈bL D:=fun z hz=>GN _ (IG.mpr ⟨x,hx,hz⟩)
theorem fI {x:Kn}:∀ {l:List Kn},x∈l->(bF x).length<=(l.flatMap bF).length
 | y::r,h=>by
  rw [HX,Gy]
  rcases GF.mp h with rfl|h
  ·lia
  ·have:=fI h
   lia
theorem Nk:ay ["table","lines","kind"] ["table"] (aj io):=cH (by decide +kernel)
theorem CC (F:K7 K "show_table" "show_table" io f fd) (T:Tc K C) (HS:Fn P w K mg base "head_shown" 1 ["table"] (sh C)) (KS:Fn P w K mg base "kind_shown" n ["table","kind"] (CA C)) (hn:1<=n):KU P w K mg base bY (n+1) f fd ["table"] (tQ C):=by
 have ZZ:=Nk
 walk_at "o"
 ·obtain ⟨v,D,rfl,hT,hS,q⟩:=h
  obtain ⟨a,dx,pp,pm,pn,pk,us,rfl,ho,hpp,hpm,hpn,hpk,Ja⟩:=id hT
  have IS:KY 1 _:=hr.mono (by lia)
  have hD:=hS.ok
  have htl:=hS.tl
  unfold bL at htl
  rw [Gy] at htl
  have sz:(1000:Nat)<=sizeLine:=by decide
  obtain ⟨hh1,hh2⟩:=i6 (zs:=cK D) (by lia) fun z hz=>hS.t8 z (Hu _ hz)
  have hkl:∀ x∈D.kinds,((bF x).map cp |>.map List.length).sum+((bF x).map cp).length*[32].length<=100000/\(au (bF x)).length<=(bF x).length*26:=fun x hx=>i6 (by have:=fI hx;lia) fun z hz=>hS.t8 z (xJ hx z hz)
  have h8:=hD.k8
  refine ⟨_,ae (ap (i:=1) Nk.nd rfl (Or.inl rfl) (aB (aa (b9 G9 Hn Hm dc af (aa (am HS IS rfl (aa (pv 0) ab)) ab)) ab)))
   (ae (cr PassesOwn.never rfl (ft (bH (pv 0) rfl)) (az (i:=2) Nk.nd rfl (Or.inl rfl))
    (ah (aN (b9 GS GR GQ bq (pv 1) (aa (b9 G9 Hn Hm dc af (aa (am KS hr rfl (aa (pv 0) (aa (pv 2) ab))) ab)) ab)))))
   (ah (ao (b9 G9 Hn Hm dc af (aa (pv 1) ab))))),?_⟩
  refine ⟨rfl,_,rfl,_,D,rfl,hT,hD,Hl hS.w (by decide),hS.c,hS.d,fun l1 H1 s1 n1 e1=>?_⟩
  rw [<-gy] at e1
  refine ⟨[32],l1,_,congrArg V.str jZ,rfl,KW.of e1,hh1,aW,fun ll nll=>?_⟩
  have s2:=ad (o:=.lst [.str (S (au (cK D)))]) nll
  have e2:(aI H1 ll (.lst [.str (S (au (cK D)))])) ll=some (.lst (cX (eD D []))):=ac
  have nll':H ll=none:=s1.free nll
  have hg:TK.jn [32] ((cK D).map cp)=au (cK D):=rfl
  rw [hg]
  generalize aI H1 ll (.lst [V.str (S (au (cK D)))])=H2 at *
  have s02:=s1.trans s2
  refine ⟨_,rfl,a,C,dx,_,_,rfl,s02 _ _ ho,T.cl,T.na "kinds" (by decide +kernel),rfl,pn,rfl,⟨_,KP.of (s02 _ _ hpn)⟩,?_⟩
  refine gD (K:=K) (a:=pn) (xs:=ai (D.kinds.map Kn.name)) (fun i σ H'=>∃ v2:Option V,σ=[some (.ref a),some (.ref ll),v2]/\KO H H'/\H' ll=some (.lst (cX (eD D (D.kinds.take i))))) ⟨_,rfl,s02,e2⟩ (fun i σ H' _ ⟨_,_,s',_⟩=>KP.of (s' _ _ hpn)) ?_ ?_
  ·rintro i y σ H3 hy ⟨v2,rfl,s3,e3⟩
   obtain ⟨z,hz,rfl⟩:=gR hy
   obtain ⟨x,hx,rfl⟩:∃ x,D.kinds[i]?=some x/\z=x.name:=by
    rw [GY] at hz
    cases e:D.kinds[i]? with
    | none=>rw [e] at hz;cases hz
    | some x=>rw [e] at hz;exact ⟨x,rfl,(Hd hz).symm⟩
   have hxm:=GM hx
   refine ⟨_,rfl,.inl ⟨rfl,_,KW.of e3⟩,?_⟩
   refine ⟨rfl,_,rfl,_,rfl,_,D,x,rfl,hT.same s3,hD,hxm,hS.w,hS.bo x hxm,fun l4 H4 s4 n4 e4=>?_⟩
   rw [<-gy] at e4
   refine ⟨[32],l4,_,congrArg V.str jZ,rfl,KW.of e4,(hkl x hxm).1,?_⟩
   have e34:=s4 _ _ e3
   refine ⟨ll,_,_,rfl,rfl,e34,?_,?_⟩
   ·rw [cL]
    unfold eD
    rw [GB,GC,GG]
    lia
   refine ⟨_,rfl,bK nll' (s3.trans s4),?_⟩
   rw [ac]
   congr 2
   unfold eD cX
   rw [GX,hx]
   simp
   rfl
  ·rintro σ H3 ⟨v2,rfl,s3,e3⟩
   rw [aY,GC,GV] at e3
   refine ⟨rfl,_,rfl,[10],ll,eD D D.kinds,congrArg V.str CB,rfl,KW.of e3,?_,q _ s3⟩
   have h5:=mX fun x hx=>(hkl x hx).2
   unfold eD
   rw [GO,Ir,GB,GC]
   simp only [GB,GL]
   lia
def MM:List (List Nat):=[[],[115,101,116],[105,102],[116,111,112,109],[110,101,120,116,114,119],[98],[103,111,100,117,99,107],[99,97,108,108,104,109]]
def fP (si:Nat):List Nat:=MM.getD si []
def A3 (fi k:Nat):Nat:=97+(fi+5*k) % 26
def yK (stem:List Nat) (way fi pd k:Nat):List Nat:=if way=0 then stem++[A3 fi k]++List.replicate pd 119 else if way=1 then [A3 fi k]++stem++List.replicate pd 119 else stem.take (k % (stem.length+1))++[A3 fi k]++[113]
def i7 (si way fi pd m:Nat):List (List Nat):=(List.range m).map (yK (fP si) way fi pd)
def NQ:List (List Nat):=LH.map cp
def A4 (t:List Nat):Bool:=!decide (t=[100,101,101,112]) && !decide (t=[98,97,114,101]) && decide (1<=t.length) && decide (t.length<=8) && !NQ.contains t && t.all fun c=>decide (97<=c) && decide (c<=122)
theorem xK:((List.range 8).all fun si=>(List.range 26).all fun t=>((List.range (8 - (fP si).length)).all fun pd=>A4 (fP si++[97+t]++List.replicate pd 119) && A4 ([97+t]++fP si++List.replicate pd 119)) && (List.range ((fP si).length+1)).all fun j=>A4 ((fP si).take j++[97+t]++[113]))=true:=by decide +kernel
theorem Mr {a b:List Nat} (h:S a=S b):a=b:=by
 have:=congrArg cp h
 rwa [fh,fh] at this
def cz (z:Str):Prop:=K4 z/\z∉([("deep":Str),("bare":Str)]:List Str)
theorem oR {t:List Nat} (h:A4 t=true):cz (S t):=by
 unfold A4 at h
 simp only [HU,decide_eq_true_eq,Ht,Bool.not_eq_true'] at h
 obtain ⟨⟨⟨⟨⟨h5,h6⟩,h1⟩,h2⟩,h3⟩,h4⟩:=h
 refine ⟨⟨fun hm=>?_,by rw [aG];exact h1,by rw [aG];exact h2,h4⟩,fun hm=>?_⟩
 rotate_left
 ·have d1:("deep":Str)=S [100,101,101,112]:=by decide +kernel
  have d2:("bare":Str)=S [98,97,114,101]:=by decide +kernel
  rw [d1,d2] at hm
  simp only [GF,GH,or_false] at hm
  rcases hm with e|e
  ·exact absurd (Mr e) (by simpa using h5)
  ·exact absurd (Mr e) (by simpa using h6)
 have:t∈NQ:=G0.mpr ⟨S t,hm,fh t⟩
 rw [Hh.mpr this] at h3
 cases h3
variable {si:Nat}
theorem tR (h:si < 8):(fP si).length<=6:=by revert si;decide +kernel
theorem CD {si way fi pd k:Nat} (h1:si < 8) (h3:pd < 8 - (fP si).length):cz (S (yK (fP si) way fi pd k)):=by
 have hs:=tR h1
 have h:=Ht.mp (Ht.mp xK si (HE.mpr h1)) ((fi+5*k) % 26) (HE.mpr (II _ (by decide)))
 obtain ⟨ha,hb⟩:=Bool.and_eq_true_iff.mp h
 obtain ⟨ha1,ha2⟩:=Bool.and_eq_true_iff.mp (Ht.mp ha pd (HE.mpr h3))
 have hb1:=Ht.mp hb (k % ((fP si).length+1)) (HE.mpr (II _ (by lia)))
 unfold yK
 split
 ·exact oR ha1
 ·split
  ·exact oR ha2
  ·exact oR hb1
theorem zP {si way fi pd a b:Nat} (hab:a < b) (hb:b < 26):S (yK (fP si) way fi pd a)≠S (yK (fP si) way fi pd b):=by
 intro e
 have e:=Mr e
 have key:A3 fi a=A3 fi b:=by
  unfold yK at e
  split at e
  ·exact (HI (List.append_cancel_left (HW e))).1
  ·split at e
   ·exact (HI (HW (HW e))).1
   ·have:=congrArg List.getLast? (HW e)
    rw [List.getLast?_concat,List.getLast?_concat] at this
    exact Hd this
 unfold A3 at key
 lia
theorem vi {si way fi pd m:Nat} (h1:si < 8) (h3:pd < 8 - (fP si).length) (hm:m<=20):((i7 si way fi pd m).map S).Nodup/\(∀ z∈(i7 si way fi pd m).map S,cz z)/\((i7 si way fi pd m).map S).length=m:=by
 refine ⟨?_,?_,?_⟩
 ·unfold i7
  rw [Hz]
  unfold List.Nodup
  rw [List.pairwise_map]
  refine List.Pairwise.imp_of_mem ?_ (List.pairwise_lt_range (n:=m))
  intro a b _ hb hab
  have:=HE.mp hb
  exact zP hab (by lia)
 ·intro z hz
  unfold i7 at hz
  rw [Hz] at hz
  obtain ⟨k,_,rfl⟩:=G0.mp hz
  exact CD h1 h3
 ·unfold i7
  simp
theorem lV (l:List (List Nat)):cX l=ai (l.map S):=by unfold cX ai;rw [Hz];rfl
inductive lW (vs:List V) (H:Hp) (Q:VK) (Z3:XK):Prop
 | mk (p:Addr) (m:Nat):vs=[.ref p,.int m]->K3 H p->m<=20->(∀ (l:Addr) H' (zs:List Str),zs.length=m->zs.Nodup->(∀ z∈zs,cz z)->K3 H' p->K8 p H H'->H l=none->H' l=some (.lst (ai zs))->Q (.ref l) H')->lW vs H Q Z3
theorem zQ (h:si < 8):([("":Str),"set","if","topm","nextrw","b","goduck","callhm"].map V.str)[si]?=some (.str (S (fP si))):=by
 have e:([("":Str),"set","if","topm","nextrw","b","goduck","callhm"]:List Str)=MM.map S:=by decide +kernel
 rw [e,Hz,GY]
 have hl:si < MM.length:=h
 rw [GJ hl]
 unfold fP
 simp [hl]
section
variable {P:Program} {w:World} {K:ZF} {mg:Str->Option Value} {base:Heap} {C Cp:Addr} {tb tm:Tok}
theorem Le:ay ["_law_stream_here","_law_many","_law_stem","_law_way","_law_first","_law_pad","_law_names_here","_law_k","_law_tail"] ["_law_stream_here","_law_many"] (aj rC):=cH (by decide +kernel)
theorem vj (F:K7 K "_law_names" "_law_names" rC f fd) (B:Bl mg) (TK':Fn P w K mg base "_law_take" 1 ["_law_stream_here","_law_many"] eB):KU P w K mg base bY 2 f fd ["_law_stream_here","_law_many"] lW:=by
 have ZZ:=Le
 walk_at "o"
 ·obtain ⟨p,m,rfl,hp,hm,q⟩:=h
  have sz:(100000:Nat)<=sizeLine:=by decide
  refine ⟨_,ae (ap (i:=2) Le.nd rfl (Or.inl rfl) (aq aL (aB (aa af (aa af (aa af (aa af (aa af (aa af (aa af (aa af ab))))))))) (am TK' hr rfl (aa (pv 0) (aa ag ab))) (fun _ _=>rfl)))
   (ae (ap (i:=3) Le.nd rfl (Or.inl rfl) (am TK' hr rfl (aa (pv 0) (aa ag ab))))
   (ae (ap (i:=4) Le.nd rfl (Or.inl rfl) (am TK' hr rfl (aa (pv 0) (aa ag ab))))
   (ae (ap (i:=5) Le.nd rfl (Or.inl rfl) (ar zH af (am TK' hr rfl (aa (pv 0) (aa (ar eR ag (aQ bN (by rfl) B.len Hf (aa (pv 2) ab))) ab)))))
   (ae (ap (i:=6) Le.nd rfl (Or.inl rfl) (aB ab))
   (ae (cr PassesOwn.never rfl (gC rfl B.range (aa (pv 1) ab)) (az (i:=7) Le.nd rfl (Or.inl rfl))
    (ae (ap (i:=8) Le.nd rfl (Or.inl rfl) (aq ib af (ar eU (ar bW (pv 4) (ar fv ag (pv 7))) ag) (fun _ _=>rfl)))
    (ah (aM (ak be (pv 3) ag (av _)) (ah (aN (b9 GS GR GQ bq (pv 6) (aa (ar aJ (ar aJ (pv 2) (pv 8)) (pv 5)) ab))))
     (ah (aM (ak be (pv 3) ag (av _)) (ah (aN (b9 GS GR GQ bq (pv 6) (aa (ar aJ (ar aJ (pv 8) (pv 2)) (pv 5)) ab))))
      (ah (aN (b9 GS GR GQ bq (pv 6) (aa (ar aJ (ar aJ (dE nO (pv 2) j8 (da (ar eU (pv 7) (ar bW (aQ bN (by rfl) B.len Hf (aa (pv 2) ab)) ag)))) (pv 8)) af) ab))))))))))
   (ah (ao (pv 6)))))))),?_⟩
  refine ⟨aW,fun l8 n8=>?_⟩
  have s1:=ad (o:=.lst ([("":Str),"set","if","topm","nextrw","b","goduck","callhm"].map V.str)) n8
  have hp1:=hp.same s1
  have e8:(aI H l8 (.lst ([("":Str),"set","if","topm","nextrw","b","goduck","callhm"].map V.str))) l8=some (.lst ([("":Str),"set","if","topm","nextrw","b","goduck","callhm"].map V.str)):=ac
  refine ⟨_,rfl,p,8,rfl,hp1,by decide,by decide,fun si H2 hsi g2 b2=>?_⟩
  have n8p:=hp.ne n8
  refine ⟨l8,_,_,_,rfl,rfl,KW.of (b2 _ _ e8 n8p.symm),bf (zQ hsi),?_⟩
  have b02:K8 p H H2:=(dB s1).trans b2
  have sl:=tR hsi
  refine ⟨_,rfl,p,3,rfl,g2,by decide,by decide,fun way H3 hway g3 b3=>?_⟩
  refine ⟨_,rfl,p,26,rfl,g3,by decide,by decide,fun fi H4 hfi g4 b4=>?_⟩
  refine ⟨_,rfl,_,rfl,_,rfl,by rw [aG];lia,_,_,rfl,rfl,?_⟩
  refine ⟨p,8 - (fP si).length,by rw [aG];exact congrArg (fun x=>[V.ref p,V.int x]) (by lia),g4,by lia,by lia,fun pd H4' hpd g4' b4'=>?_⟩
  refine ⟨119,pd,congrArg V.str (by decide +kernel),rfl,by lia,?_⟩
  have b04:K8 p H H4':=(b02.trans (b3.trans b4)).trans b4'
  clear b02 b2 b3 b4 g2 g3 b4'
  refine ⟨aW,fun ln nln=>?_⟩
  have s5:=ad (o:=.lst []) nln
  have e5:(aI H4' ln (.lst [])) ln=some (.lst []):=ac
  have g5:=g4'.same s5
  have pln:p≠ln:=g4'.ne nln
  have nH:H ln=none:=by
   cases h:H ln with
   | none=>rfl
   | some o=>
    have:=b04 _ _ h pln.symm
    rw [nln] at this
    cases this
  have b05:K8 p H (aI H4' ln (.lst [])):=b04.same s5
  generalize aI H4' ln (.lst ([]:List V))=H5 at *
  refine ⟨_,rfl,_,rfl,by lia,by lia,?_⟩
  rw [show ((m:Int)).toNat=m from HL m]
  refine gE (lo:=0) (n:=m) (fun i σ H'=>∃ v6 v7:Option V,σ=[some (.ref p),some (.int m),some (.str (S (fP si))),some (.int way),some (.int fi),some (.str (S (List.replicate pd 119))),some (.ref ln),v6,v7]/\K3 H' p/\K8 p H H'/\H' ln=some (.lst (cX (i7 si way fi pd i)))) ⟨_,_,rfl,g5,b05,e5⟩ ?_ ?_
  ·rintro k σ H6 hk ⟨v6,v7,rfl,g6,b6,e6⟩
   have hk':k < m:=hk
   have e0:((0:Int)+(k:Int))=(k:Int):=by lia
   rw [e0]
   have hmod:((fi:Int)+5*(k:Int)) % 26=(((fi+5*k) % 26:Nat):Int):=by lia
   have hq5:(fi+5*k) % 26 < 26:=II _ (by decide)
   have qat:∀ j < 26,("abcdefghijklmnopqrstuvwxyz":Str).cps.toList[j]?=some (97+j):=by decide +kernel
   refine ⟨_,rfl,_,rfl,_,_,rfl,rfl,.inl ⟨by decide,by decide⟩,_,_,rfl,rfl,_,_,rfl,rfl,(by show (0:Int) < 26;decide),?_⟩
   refine ⟨"abcdefghijklmnopqrstuvwxyz",_,_,rfl,rfl,by decide +kernel,by show nG _ (((fi:Int)+5*(k:Int)) % 26)=_;rw [hmod];exact bf (qat _ hq5),?_⟩
   have et:(⟨#[97+(fi+5*k) % 26]⟩:Str)=S [A3 fi k]:=rfl
   rw [et]
   have fin:∀ nm,nm=yK (fP si) way fi pd k->∃ v6 v7:Option V,[some (V.ref p),some (.int m),some (.str (S (fP si))),some (.int way),some (.int fi),some (.str (S (List.replicate pd 119))),some (.ref ln),some (.int k),some (.str (S [A3 fi k]))]=[some (.ref p),some (.int m),some (.str (S (fP si))),some (.int way),some (.int fi),some (.str (S (List.replicate pd 119))),some (.ref ln),v6,v7]/\K3 (aI H6 ln (.lst (cX (i7 si way fi pd k)++[.str (S nm)]))) p/\K8 p H (aI H6 ln (.lst (cX (i7 si way fi pd k)++[.str (S nm)])))/\(aI H6 ln (.lst (cX (i7 si way fi pd k)++[.str (S nm)]))) ln=some (.lst (cX (i7 si way fi pd (k+1)))):=by
    rintro nm rfl
    refine ⟨_,_,rfl,?_,?_,?_⟩
    ·obtain ⟨x,y,z,e⟩:=g6
     exact ⟨x,y,z,by rw [aw pln];exact e⟩
    ·intro b o e nb
     rw [aw (aK e nH)]
     exact b6 _ _ e nb
    ·rw [ac]
     unfold i7 cX
     rw [List.range_succ,GK,GK]
     rfl
   have lnm:(cX (i7 si way fi pd k)).length < sizeLine:=by
    unfold cX i7
    rw [GC,GC,List.length_range]
    lia
   refine ⟨_,rfl,rfl,_,rfl,bU (fun h=>?_) (fun h=>?_)⟩
   ·have h':(way:Int)=0:=V.int.inj (of_decide_eq_true h)
    have hw0:way=0:=by lia
    refine ⟨_,rfl,.inl ⟨rfl,_,KW.of e6⟩,_,rfl,_,rfl,_,_,rfl,rfl,by rw [aG,aG];simp;lia,?_⟩
    rw [bA]
    refine ⟨_,rfl,_,_,rfl,rfl,by rw [aG,aG,Gy];simp;lia,ln,_,_,rfl,rfl,e6,lnm,?_⟩
    rw [bA]
    exact fin _ (by unfold yK;rw [if_pos hw0])
   have nw0:way≠0:=fun e=>h (decide_eq_true (by rw [e];rfl))
   refine ⟨_,rfl,rfl,_,rfl,bU (fun h=>?_) (fun h=>?_)⟩
   ·have h':(way:Int)=1:=V.int.inj (of_decide_eq_true h)
    have hw1:way=1:=by lia
    refine ⟨_,rfl,.inl ⟨rfl,_,KW.of e6⟩,_,rfl,_,rfl,_,_,rfl,rfl,by rw [aG,aG];simp;lia,?_⟩
    rw [bA]
    refine ⟨_,rfl,_,_,rfl,rfl,by rw [aG,aG,Gy];simp;lia,ln,_,_,rfl,rfl,e6,lnm,?_⟩
    rw [bA]
    exact fin _ (by unfold yK;rw [if_neg nw0,if_pos hw1])
   have nw1:way≠1:=fun e=>h (decide_eq_true (by rw [e];rfl))
   refine ⟨_,rfl,.inl ⟨rfl,_,KW.of e6⟩,_,rfl,_,rfl,_,rfl,_,rfl,by rw [aG];lia,_,_,rfl,rfl,_,_,rfl,rfl,?_,_,rfl,_,rfl,by lia,?_⟩
   ·rw [aG]
    show (0:Int) < ((fP si).length:Int)+1
    lia
   have hcut:fX (fP si) none (some ((k:Int) % (((S (fP si)).length:Int)+1)))=(fP si).take (k % ((fP si).length+1)):=by
    rw [aG]
    have e1:(k:Int) % (((fP si).length:Int)+1)=((k % ((fP si).length+1):Nat):Int):=by
     rw [Int.natCast_emod]
     rfl
    have Je:k % ((fP si).length+1) < (fP si).length+1:=II _ (by lia)
    unfold fX
    rw [e1,HT.sIx_none,HT.sIx_nat,IL (by lia),List.drop_zero,Nat.sub_zero]
   have hcl:(fX (fP si) none (some ((k:Int) % (((S (fP si)).length:Int)+1)))).length<=6:=by
    rw [hcut,GG]
    lia
   generalize hcv:fX (fP si) none (some ((k:Int) % (((S (fP si)).length:Int)+1)))=cv at *
   have eq:("q":Str)=S [113]:=by decide +kernel
   refine ⟨_,rfl,_,_,rfl,rfl,by rw [aG,aG];simp;lia,?_⟩
   rw [bA]
   refine ⟨_,_,rfl,congrArg V.str eq,by rw [aG,aG,Gy];simp;lia,ln,_,_,rfl,rfl,e6,lnm,?_⟩
   rw [bA]
   exact fin _ (by unfold yK;rw [if_neg nw0,if_neg nw1,hcut])
  ·rintro σ H6 ⟨v6,v7,rfl,g6,b6,e6⟩
   obtain ⟨h1,h2,h3⟩:=vi (way:=way) (fi:=fi) hsi hpd hm
   rw [lV] at e6
   exact ⟨_,rfl,q ln H6 _ h3 h1 h2 g6 b6 nH e6⟩
end
end L3
namespace L2
open PySem PySem.Spec PyProof.Rows
theorem kr {K:ZF} {l:Addr} {xs:List V} {g:TG} {tf:TT} {te:TE} {ix:List (Option Nat)} {σ:St} {H:Hp} {Q:VK} (Pv:Nat->List V->Hp->Prop) (h0:Pv 0 [] H)
  (hl:∀ i ys H,i<=xs.length->Pv i ys H->KW K H l xs/\ys.length<=sizeLine)
  (hs:∀ i x ys H T,xs[i]?=some x->H T=none->Pv i ys H->g (.ref T) (qN ix σ) (aI H T (.tup [.int i,x])) fun σ2 H2=>L9 (qN ix σ) σ2/\tf σ2 H2 fun b H3=>if b=true then te σ2 H3 fun y H4=>Nx Pv xs.length i (ys++[y]) H4 else Nx Pv xs.length i ys H3)
  (hd:∀ ys H,Pv xs.length ys H->∀ D,H D=none->Q (.ref D) (aI H D (.lst ys))):wg (NN K l) g tf te ix σ H Q:=by
 refine ⟨fun i m ys H=>m=xs.length - i/\i<=xs.length/\Pv i ys H,⟨xs.length,by simp,Hj _,h0⟩,?_⟩
 rintro i m ys H ⟨rfl,hi,p⟩
 obtain ⟨q,hz⟩:=hl i ys H hi p
 by_cases Je:i < xs.length
 ·refine .inr ⟨⟨xs,xs[i],q,by simp [Je]⟩,hz,fun v H' y=>?_⟩
  obtain ⟨T,x,e1,hT,e2,hy⟩:=y
  subst e1 e2
  exact hs i x ys H T (hy xs q) hT p
 ·have e:i=xs.length:=by lia
  subst e
  exact .inl ⟨⟨xs,q,GE _⟩,hz,hd ys H p⟩
end L2
namespace L3
open PySem L2
variable {y:V} {kvs:List (cE×V)}
theorem iC {k:cE}:bh (bu kvs k y) k=some y:=by rw [kY,if_pos rfl]
theorem cm {k j:cE} (h:j≠k):bh (bu kvs k y) j=bh kvs j:=by rw [kY,if_neg h]
variable {v:V} {z:Str} {a:Addr} {H:Hp}
theorem cj (e:H a=some (.dK kvs)) (h:bh kvs (Sum.inr z)=some v):Li H a (.str z) (some v):=by
 have:=Li.k (k:=Sum.inr z) e
 rw [h] at this
 exact this
variable {H1:Hp}
theorem sk {p l:Addr} (b:K8 p H H1) (g:K3 H1 p) (n:H1 l=none):H l=none:=by
 have hl:=g.ne n
 cases e:H l with
 | none=>rfl
 | some o=>
  have:=b _ _ e hl.symm
  rw [n] at this
  cases this
theorem CF (xs:List V) (n:Nat):iL xs none (some (n:Int))=xs.take n:=by
 unfold iL
 rw [HT.sIx_nat,HT.sIx_none,List.drop_zero,Nat.sub_zero]
 by_cases h:n<=xs.length
 ·rw [IL h]
 ·rw [Nat.min_eq_right (by lia),HF (GE _),HF (by lia)]
theorem CG (xs:List V) (n m:Nat) (h:n+m<=xs.length):iL xs (some (n:Int)) (some ((n+m:Nat):Int))=(xs.drop n).take m:=by
 unfold iL
 rw [HT.sIx_nat,HT.sIx_nat,IL h,IL (by lia:n<=xs.length),Nat.add_sub_cancel_left]
def kS (z:Str):cE:=Sum.inr z
inductive M9 (H:Hp) (d:Addr) (W:Nat) (ps:List Str) (ms:List Str):Prop
 | mk (kvs lp lm:_):H d=some (.dK kvs)->bh kvs (kS "width")=some (.int W)->bh kvs (kS "places")=some (.ref lp)->bh kvs (kS "marks")=some (.ref lm)->H lp=some (.lst (ai ps))->H lm=some (.lst (ai ms))->M9 H d W ps ms
inductive MV (H:Hp) (l:Addr) (fs:List (Str×Str)):Prop
 | mk (us:_):H l=some (.lst us)->Paired (Lf H) us fs->MV H l fs
theorem bG {p l:Addr} {o:HO} (g:K3 H p) (e:H l=some o) (h:∀ x y z,o≠oe x y z):l≠p:=by
 rintro rfl
 obtain ⟨x,y,z,e'⟩:=g
 rw [e] at e'
 exact h x y z (Hd e')
theorem cu (zs:List Str) (x y z:Int):HO.lst (ai zs)≠oe x y z:=by
 intro e
 have:=HO.lst.inj e
 cases zs with
 | nil=>cases this
 | cons a r=>cases this
variable {us:List V}
theorem qx {fs:List (Str×Str)} (h:Paired (Lf H) us fs) (x y z:Int):HO.lst us≠oe x y z:=by
 intro e
 have:=HO.lst.inj e
 cases h with
 | nil=>cases this
 | cons a r=>
  obtain ⟨p,rfl,_⟩:=a
  cases this
variable {p:Addr}
theorem dM {H H':Hp} (g:K3 H p) (b:K8 p H H'):K5 H H':=fun a xs e=>b _ _ e (bG g e fun _ _ _ h=>by cases h)
variable {ps ms:List Str} {W:Nat} {d:Addr}
theorem M9.but {H H':Hp} (h:M9 H d W ps ms) (g:K3 H p) (b:K8 p H H'):M9 H' d W ps ms:=
 let ⟨kvs,lp,lm,a1,a2,a3,a4,a5,a6⟩:=h
 ⟨kvs,lp,lm,b _ _ a1 (bG g a1 fun _ _ _ h=>by cases h),a2,a3,a4,b _ _ a5 (bG g a5 (cu _)),b _ _ a6 (bG g a6 (cu _))⟩
variable {u:V}
theorem Lf.kt2 {H H':Hp} (k:K5 H H') {x:Str×Str} (h:Lf H u x):Lf H' u x:=let ⟨p,a,c⟩:=h;⟨p,a,k _ _ c⟩
theorem MV.but {H H':Hp} {p l:Addr} {fs:List (Str×Str)} (h:MV H l fs) (g:K3 H p) (b:K8 p H H'):MV H' l fs:=
 let ⟨us,a1,a2⟩:=h
 ⟨us,b _ _ a1 (bG g a1 (qx a2)),bS (fun _ _ h=>Lf.kt2 (dM g b) h) a2⟩
theorem M9.same {H H':Hp} (h:M9 H d W ps ms) (s:KO H H'):M9 H' d W ps ms:=
 let ⟨kvs,lp,lm,a1,a2,a3,a4,a5,a6⟩:=h
 ⟨kvs,lp,lm,s _ _ a1,a2,a3,a4,s _ _ a5,s _ _ a6⟩
theorem MV.same {H H':Hp} {l:Addr} {fs:List (Str×Str)} (h:MV H l fs) (s:KO H H'):MV H' l fs:=
 let ⟨us,a1,a2⟩:=h
 ⟨us,s _ _ a1,bS (fun _ _ h=>Lf.kt2 (al s) h) a2⟩
def cD (st:Str) (fs:List (Str×Str)) (i:Nat):List Nat:=(List.range i).filter fun j=>decide ((fs.getD j ("","")).2=st)
def dw (l:List Nat):List V:=l.map fun (n:Nat)=>V.int (n:Int)
theorem vk (l:List Nat):dw l=(l.map fun (n:Nat)=>(n:Int)).map V.int:=by unfold dw;rw [Hz];rfl
theorem fj (l:List Nat):(dw l).length=l.length:=by unfold dw;rw [GC]
variable {i:Nat}
theorem oS {l:List Nat} (h:i < l.length):(dw l)[i]?=some (.int (l[i]:Nat)):=by unfold dw;rw [GY,GJ h];rfl
variable {st:Str}
theorem ef {fs:List (Str×Str)} {z:Str×Str} (h:fs[i]?=some z):cD st fs (i+1)=cD st fs i++(if z.2=st then [i] else []):=by
 unfold cD
 rw [List.range_succ,Ix]
 have e:fs.getD i ("","")=z:=by rw [Hg,h];rfl
 congr 1
 by_cases hz:z.2=st
 ·rw [if_pos hz]
  show [i].filter _=_
  rw [HN]
  ·rfl
  ·rw [e];exact decide_eq_true hz
 ·rw [if_neg hz,Iy]
  ·rfl
  ·rw [e];simpa using hz
theorem gS (st:Str) (fs:List (Str×Str)) (i:Nat):(cD st fs i).length<=i:=by
 have:=List.length_filter_le (fun j=>decide ((fs.getD j ("","")).2=st)) (List.range i)
 rw [List.length_range] at this
 exact this
variable {j:Nat}
theorem lX {fs:List (Str×Str)} (h:j∈cD st fs fs.length):∃ z,fs[j]?=some (z,st):=by
 obtain ⟨h1,h2⟩:=Ih.mp h
 have hl:=HE.mp h1
 have e:fs.getD j ("","")=fs[j]:=by rw [Hg,GJ hl];rfl
 rw [e] at h2
 have h2':=of_decide_eq_true h2
 refine ⟨fs[j].1,?_⟩
 rw [GJ hl,<-h2']
variable {Q:V->Hp->Prop} {b:Addr} {K:ZF}
theorem oT {l:List Nat} (ha:H a=some (.lst (dw l))) (hb:H b=some (.lst [])) (q:Q (.bl (!decide (l=[]))) H):MZ K (.ref a) (.ref b) H Q:=by
 rw [vk] at ha
 refine ⟨_,_,Nv (KW.of ha),.lst (KW.of hb) .nil,LS _,rfl,Hl (Nat.min_le_right _ _) (by simp [PyData.depth,PyData.depthAll]),?_⟩
 have e:PyData.eqv (Nf (l.map fun (n:Nat)=>(n:Int))) (.list [])=decide (l=[]):=by
  unfold Nf
  cases l with
  | nil=>simp [PyData.eqv,PyData.eqvAll]
  | cons x r=>simp [PyData.eqv,PyData.eqvAll]
 rw [e]
 exact q
theorem fJ:∀ (ns:List Str),Ln K H (ai ns) (ns.map PyData.str)
 | []=>.nil
 | n::r=>.cons (.str n) (fJ r)
theorem fk (h:K4 z):li z=true:=by
 unfold li
 simp only [PyData.canLay0]
 unfold PyData.strOk
 rw [Array.all_eq_true']
 intro c hc
 have:=h.2.2.2 c (by simpa using hc)
 exact decide_eq_true (by lia)
theorem i8:∀ {ns:List Str},(∀ z∈ns,li z=true)->PyData.canLayAll0 (ns.map PyData.str)=true
 | [],_=>rfl
 | n::r,h=>by
  show ((PyData.str n).canLay0 && PyData.canLayAll0 (r.map PyData.str))=true
  rw [i8 fun z hz=>h z (GD _ hz)]
  have:(PyData.str n).canLay0=true:=h n Gz
  rw [this]
  rfl
theorem oU {l:List Str} (hn:∀ z∈l,K4 z) (ha:H a=some (.lst (ai l))) (hb:H b=some (.lst [])) (q:Q (.bl (!decide (l=[]))) H):MZ K (.ref a) (.ref b) H Q:=by
 refine ⟨.list (l.map PyData.str),_,.lst (KW.of ha) (fJ l),.lst (KW.of hb) .nil,i8 fun z hz=>fk (hn z hz),rfl,by simp [PyData.depth,PyData.depthAll],?_⟩
 have e:PyData.eqv (.list (l.map PyData.str)) (.list [])=decide (l=[]):=by
  cases l with
  | nil=>simp [PyData.eqv,PyData.eqvAll]
  | cons x r=>simp [PyData.eqv,PyData.eqvAll]
 rw [e]
 exact q
def cw (L:List Str) (st:Str) (fs:List (Str×Str)) (b:Bool) (n:Nat):Prop:=if b=true then ∃ z,fs[n]?=some (z,st) else n < L.length
def fm (ps ms:List Str) (st:Str):List Str:=if st="place" then ps else ms
inductive lY (vs:List V) (H:Hp) (Q:VK) (Z3:XK):Prop
 | mk (p st d lf W ps ms fs:_):vs=[.ref p,.str st,.ref d,.ref lf]->K3 H p->M9 H d W ps ms->MV H lf fs->fs.length<=3->(st="place"\/st="mark")->1<=(fm ps ms st).length->(fm ps ms st).length<=10->(∀ v H' b n,K3 H' p->K8 p H H'->MG H' b n v->cw (fm ps ms st) st fs b n->Q v H')->lY vs H Q Z3
theorem iD (h:M9 H d W ps ms) (hst:st="place"\/st="mark"):∃ l,Li H d (.str (st++"s")) (some (.ref l))/\H l=some (.lst (ai (fm ps ms st))):=by
 obtain ⟨kvs,lp,lm,a1,a2,a3,a4,a5,a6⟩:=h
 rcases hst with rfl|rfl
 ·refine ⟨lp,?_,?_⟩
  ·have:(("place":Str)++("s":Str))="places":=by decide +kernel
   rw [this]
   exact cj a1 a3
  ·unfold fm
   rw [if_pos rfl]
   exact a5
 ·refine ⟨lm,?_,?_⟩
  ·have:(("mark":Str)++("s":Str))="marks":=by decide +kernel
   rw [this]
   exact cj a1 a4
  ·unfold fm
   rw [if_neg (by decide +kernel)]
   exact a6
variable {P:Program} {w:World} {K:ZF} {mg:Str->Option Value} {base:Heap} {C fi aS aE aF aO:Addr} {t1 t2 t3 t4 t5 tM:Tok}
theorem Ng:ay ["_law_stream_here","_law_sort","_law_table_here","_law_fields","_law_by"] ["_law_stream_here","_law_sort","_law_table_here","_law_fields"] (aj sZ):=cH (by decide +kernel)
theorem FR:(["_law_j","_law_name","_law_its","_law_sort"]:List Str).Nodup:=by decide +kernel
variable {fd:FuncData} {f:Addr}
theorem zR (F:K7 K "_law_sel" "_law_sel" sZ f fd) (B:Bl mg) (B3:zF mg) (TK':Fn P w K mg base "_law_take" 1 ["_law_stream_here","_law_many"] eB):KU P w K mg base bY 2 f fd ["_law_stream_here","_law_sort","_law_table_here","_law_fields"] lY:=by
 have ZZ:=Ng
 walk_at "o"
 ·obtain ⟨p,st,d,lf,W,ps,ms,fs,rfl,hp,hT,hF,h3,hst,h1,h10,q⟩:=h
  have hu:=dP hr
  have sz:(100000:Nat)<=sizeLine:=by decide
  refine ⟨_,ae (kR (i:=4) Ng.nd rfl rfl (N':=["_law_j","_law_name","_law_its","_law_sort"]) (ix:=[none,none,none,some 1]) (sc0:=aj sZ) (N:=["_law_stream_here","_law_sort","_law_table_here","_law_fields","_law_by"]) rfl (by decide +kernel) (LO rfl B3.enumerate (aa (pv 3) ab))
     (fun C' cl s H fp=>dR (K:=K) (n:=2) rfl rfl (aA (az (i:=0) FR rfl (Or.inl rfl) (.inr rfl)) (aA (dR (K:=K) (n:=2) rfl rfl (aA (az (i:=1) FR rfl (Or.inl rfl) (.inr rfl)) (aA (az (i:=2) FR rfl (Or.inl rfl) (.inr rfl)) bi))) bi))) (fun _ _ _ _ _=>jr (ak be (pv 2) (pv 3) (av _))) (fun C' cl s H fp=>pv 0))
   (ae (aM (c6 (fun σ H'=>∃ lb,σ=[some (.ref p),some (.str st),some (.ref d),some (.ref lf),some (.ref lb)]/\K3 H' p/\K8 p H H'/\H' lb=some (.lst (dw (cD st fs fs.length)))/\p≠lb/\cD st fs fs.length≠[]) (fun σ H'=>∃ lb,σ=[some (.ref p),some (.str st),some (.ref d),some (.ref lf),some (.ref lb)]/\K3 H' p/\K8 p H H') (PW.pt (bZ (ak (Lm hr) (pv 4) (aB ab) (av _)) (bJ (ak be (am TK' hr rfl (aa (pv 0) (aa ag ab))) ag (av _))))))
     (ah (ao (aC (aa af (aa (aq aL (pv 4) (am TK' hr rfl (aa (pv 0) (aa (aQ bj (by rfl) B.len Hf (aa (pv 4) ab)) ab))) (fun _ _=>rfl)) ab))))) aH)
   (ah (ao (aC (aa af (aa (am TK' hr rfl (aa (pv 0) (aa (aQ bj (by rfl) B.len Hf (aa (bD hu (pv 2) (ar aJ (pv 1) af) (fun _ _=>rfl)) ab)) ab))) ab)))))),?_⟩
  obtain ⟨us,hlf,Ja⟩:=id hF
  have lu:=Ja.length
  refine ⟨_,rfl,lf,rfl,⟨_,KW.of hlf⟩,?_⟩
  refine kr (K:=K) (l:=lf) (xs:=us) (fun i ys H'=>KO H H'/\ys=dw (cD st fs i)) ⟨KO.refl _,rfl⟩ (fun i ys H' hi ⟨s',e'⟩=>⟨KW.of (s' _ _ hlf),by rw [e',fj];have:=gS st fs i;lia⟩) ?_ ?_
  ·rintro i x ys H1 T1 hx nT ⟨s1,rfl⟩
   obtain ⟨z,hz,pf,rfl,hpf⟩:=gr Ja hx
   have s2:=ad (o:=.tup [.int (i:Int),.ref pf]) nT
   have Jd:=s1.trans s2
   have Je:=(GA.mp hx).1
   refine ⟨T1,_,rfl,KP.of ac,rfl,_,_,rfl,_,_,rfl,⟨pf,_,rfl,KP.of (Jd _ _ hpf),rfl,_,_,rfl,_,_,rfl,rfl,rfl,⟨rfl,trivial⟩,?_⟩⟩
   refine ⟨_,rfl,_,rfl,rfl,_,rfl,bU (fun h=>?_) (fun h=>?_)⟩
   ·have h':z.2=st:=V.str.inj (of_decide_eq_true h)
    refine ⟨_,rfl,Nx.mk Je ⟨Jd,?_⟩⟩
    rw [ef hz,if_pos h']
    unfold dw
    rw [GK]
    rfl
   ·have h':¬ z.2=st:=fun e=>h (decide_eq_true (by rw [e]))
    refine Nx.mk Je ⟨Jd,?_⟩
    rw [ef hz,if_neg h',Hw]
  ·rintro ys H1 ⟨s1,rfl⟩ lb nlb
   rw [lu]
   have hil:=gS st fs fs.length
   have s2:=ad (o:=.lst (dw (cD st fs fs.length))) nlb
   have e2:(aI H1 lb (.lst (dw (cD st fs fs.length)))) lb=some (.lst (dw (cD st fs fs.length))):=ac
   have plb:p≠lb:=(hp.same s1).ne nlb
   generalize aI H1 lb (.lst (dw (cD st fs fs.length)))=H2 at *
   have s02:=s1.trans s2
   refine ⟨?_,?_,?_⟩
   ·rintro H4 ⟨lb',e,g4,b4,e4,pl4,Jb⟩
    have hpos:0 < (cD st fs fs.length).length:=HR.mpr Jb
    cases e
    refine ⟨_,rfl,_,rfl,_,rfl,lb,_,rfl,.inl (KW.of e4),?_⟩
    rw [fj]
    refine ⟨p,(cD st fs fs.length).length,rfl,g4,hpos,by lia,fun j H5 hj g5 b5=>?_⟩
    obtain ⟨z,hz⟩:=lX (Hv hj)
    refine ⟨lb,_,_,_,rfl,rfl,KW.of (b5 _ _ e4 pl4.symm),bf (oS hj),aW,fun t nt=>?_⟩
    have s6:=ad (o:=.tup [.str "by",.int ((cD st fs fs.length)[j]:Nat)]) nt
    refine q _ _ true (cD st fs fs.length)[j] (g5.same s6) ((b4.trans b5).same s6) ⟨t,rfl,ac⟩ ?_
    unfold cw
    rw [if_pos rfl]
    exact ⟨z,hz⟩
   ·rintro H4 ⟨lb',e,g4,b4⟩
    cases e
    have hT4:=hT.but hp b4
    obtain ⟨l,dg,el⟩:=iD hT4 hst
    have hsl:st.length+("s":Str).length<=sizeLine:=by
     rcases hst with rfl|rfl<;>decide +kernel
    refine ⟨_,rfl,_,rfl,_,rfl,_,_,rfl,rfl,hsl,d,_,rfl,dg,l,_,rfl,.inl (KW.of el),?_⟩
    rw [aY]
    refine ⟨p,(fm ps ms st).length,rfl,g4,by lia,by lia,fun j H5 hj g5 b5=>?_⟩
    refine ⟨aW,fun t nt=>?_⟩
    have s6:=ad (o:=.tup [.str "is",.int (j:Nat)]) nt
    refine q _ _ false j (g5.same s6) ((b4.trans b5).same s6) ⟨t,rfl,ac⟩ ?_
    unfold cw
    rw [if_neg (by decide)]
    exact hj
   ·refine ⟨_,rfl,aW,fun le nle=>?_⟩
    have s3:=ad (o:=.lst []) nle
    have e3:(aI H2 le (.lst [])) le=some (.lst []):=ac
    generalize aI H2 le (.lst ([]:List V))=H3 at *
    have s03:=s02.trans s3
    have hp3:=hp.same s03
    refine oT (s3 _ _ e2) e3 ⟨_,rfl,?_⟩
    refine bU (fun h=>?_) (fun h=>?_)
    ·have Jb:cD st fs fs.length≠[]:=by
      intro e
      rw [e] at h
      simp at h
     refine ⟨_,rfl,p,2,rfl,hp3,by decide,by decide,fun r H4 IU g4 b4=>?_⟩
     have b04:K8 p H H4:=(dB s03).trans b4
     refine ⟨rfl,_,rfl,bU (fun h=>?_) (fun h=>?_)⟩
     ·exact ⟨lb,rfl,g4,b04,b4 _ _ (s3 _ _ e2) plb.symm,plb,Jb⟩
     ·exact ⟨lb,rfl,g4,b04⟩
    ·exact ck ⟨lb,rfl,hp3,dB s03⟩
def aX (W:Nat) (ps ms:List Str) (fs:List (Str×Str)):Nat->Ed->Prop
 | _,.num n=>n < 2 ^ W
 | _,.fld j=>∃ z:Str,fs[j]?=some (z,("number":Str))
 | _,.pl b n=>cw ps "place" fs b n
 | _,.mk b n=>cw ms "mark" fs b n
 | 0,.cell _=>False
 | m+1,.cell e=>aX W ps ms fs m e
 | 0,.two _ _ _=>False
 | m+1,.two o x y=>o∈La/\aX W ps ms fs m x/\aX W ps ms fs m y
structure Lx (H:Hp) (p d lf:Addr) (W:Nat) (ps ms:List Str) (fs:List (Str×Str)):Prop where
 g:K3 H p
 t:M9 H d W ps ms
 f:MV H lf fs
 f3:fs.length<=3
 w4:4<=W
 w24:W<=24
 p1:1<=ps.length
 p10:ps.length<=10
 m10:ms.length<=10
 mn:∀ z∈ms,cz z
 pn:∀ z∈ps,cz z
variable {lf:Addr}
theorem Lx.but {H H':Hp} {fs:List (Str×Str)} (h:Lx H p d lf W ps ms fs) (g:K3 H' p) (b:K8 p H H'):Lx H' p d lf W ps ms fs:=⟨g,h.t.but h.g b,h.f.but h.g b,h.f3,h.w4,h.w24,h.p1,h.p10,h.m10,h.mn,h.pn⟩
theorem cP:fm ps ms "place"=ps:=if_pos rfl
theorem de:fm ps ms "mark"=ms:=if_neg (by decide +kernel)
inductive JA (p:Addr) (d:Addr) (lf:Addr) (fs:List (Str×Str)) (H:Hp) (σ:St) (H':Hp):Prop
 | mk (lb:_) (r:Nat):σ=[some (.ref p),some (.ref d),some (.ref lf),some (.ref lb),some (.int r)]->K3 H' p->K8 p H H'->p≠lb->H' lb=some (.lst (dw (cD "number" fs fs.length)))->JA p d lf fs H σ H'
variable {e:Ed}
theorem i9 {fs:List (Str×Str)} (h:aX W ps ms fs 0 e):∀ m,aX W ps ms fs m e:=by
 intro m
 cases e<;>cases m<;>first|exact h|(simp [aX] at h ⊢;done)|(simp [aX] at h ⊢;exact h)
inductive oV (vs:List V) (H:Hp) (Q:VK) (Z3:XK):Prop
 | mk (p d lf W ps ms fs:_):vs=[.ref p,.ref d,.ref lf]->Lx H p d lf W ps ms fs->(∀ v H' e,K3 H' p->K8 p H H'->LY H' e v->(∀ m,aX W ps ms fs m e)->Q v H')->oV vs H Q Z3
inductive qy (m:Nat) (vs:List V) (H:Hp) (Q:VK):Prop
 | mk (p d lf W ps ms fs:_) (k:Nat):vs=[.ref p,.ref d,.ref lf,.int k]->Lx H p d lf W ps ms fs->1<=k->k<=m+1->(∀ v H' e,K3 H' p->K8 p H H'->LY H' e v->aX W ps ms fs (k - 1) e->Q v H')->qy m vs H Q
def ku :Nat->Sp
 | 0=>jX
 | m+1=>fun vs H Q _=>qy m vs H Q
theorem CI (w:Nat):(1*2 ^ ((w:Int)).toNat:Int)=((2 ^ w:Nat):Int):=by
 rw [HL,Int.one_mul,Int.natCast_pow]
 rfl
theorem Mw:ay ["_law_stream_here","_law_table_here","_law_fields","_law_numbers","_law_way"] ["_law_stream_here","_law_table_here","_law_fields"] (aj nX):=cH (by decide +kernel)
theorem vo:(["_law_j","_law_name","_law_sort"]:List Str).Nodup:=by decide +kernel
theorem xL (F:K7 K "_law_atom" "_law_atom" nX f fd) (B:Bl mg) (B3:zF mg) (TK':Fn P w K mg base "_law_take" 1 ["_law_stream_here","_law_many"] eB) (SL:Fn P w K mg base "_law_sel" 2 ["_law_stream_here","_law_sort","_law_table_here","_law_fields"] lY):KU P w K mg base bY 3 f fd ["_law_stream_here","_law_table_here","_law_fields"] oV:=by
 have ZZ:=Mw
 walk_at "o"
 ·obtain ⟨p,d,lf,W,ps,ms,fs,rfl,hL,q⟩:=h
  have hu:=dP hr
  have IS:KY 1 _:=hr.mono (by decide)
  have sz:(100000:Nat)<=sizeLine:=by decide
  have h3:=hL.f3
  refine ⟨_,ae (kR (i:=3) Mw.nd rfl rfl (N':=["_law_j","_law_name","_law_sort"]) (ix:=[none,none,none]) (sc0:=aj nX) (N:=["_law_stream_here","_law_table_here","_law_fields","_law_numbers","_law_way"]) rfl (by decide +kernel) (LO rfl B3.enumerate (aa (pv 2) ab))
     (fun C' cl s H fp=>dR (K:=K) (n:=2) rfl rfl (aA (az (i:=0) vo rfl (Or.inl rfl) (.inr rfl)) (aA (dR (K:=K) (n:=2) rfl rfl (aA (az (i:=1) vo rfl (Or.inl rfl) (.inr rfl)) (aA (az (i:=2) vo rfl (Or.inl rfl) (.inr rfl)) bi))) bi))) (fun _ _ _ _ _=>jr (ak be (pv 2) af (av _))) (fun C' cl s H fp=>pv 0))
   (bz (JA p d lf fs H) (ap (i:=4) Mw.nd rfl (Or.inl rfl) (am TK' IS rfl (aa (pv 0) (aa ag ab))))
   (ae (aM (c6 (fun σ H'=>JA p d lf fs H σ H'/\cD "number" fs fs.length≠[]) (JA p d lf fs H) (PW.pt (bZ (ak be (pv 4) ag (av _)) (bJ (ak (Lm hr) (pv 3) (aB ab) (av _))))))
     (ah (ao (aC (aa af (aa (aq aL (pv 3) (am TK' IS rfl (aa (pv 0) (aa (aQ bj (by rfl) B.len Hf (aa (pv 3) ab)) ab))) (fun _ _=>rfl)) ab))))) aH)
   (ae (aM (c6 (fun σ H'=>JA p d lf fs H σ H'/\ms≠[]) (JA p d lf fs H) (PW.pt (bZ (ak be (pv 4) ag (av _)) (bJ (ak (Lm hr) (bD hu (pv 1) af (fun _ _=>rfl)) (aB ab) (av _))))))
     (ah (ao (aC (aa af (aa (am SL hr rfl (aa (pv 0) (aa af (aa (pv 1) (aa (pv 2) ab))))) ab))))) aH)
   (ae (aM (ak be (pv 4) ag (av _)) (ah (ao (aC (aa af (aa (am TK' IS rfl (aa (pv 0) (aa ag ab))) ab))))) aH)
   (ae (aM (ak be (pv 4) ag (av _)) (ah (ao (aC (aa af (aa (am TK' IS rfl (aa (pv 0) (aa (ar vQ ag (bD hu (pv 1) af (fun _ _=>rfl))) ab))) ab))))) aH)
   (ah (ao (aC (aa af (aa (am SL hr rfl (aa (pv 0) (aa af (aa (pv 1) (aa (pv 2) ab))))) ab)))))))))),?_⟩
  obtain ⟨us,hlf,Ja⟩:=id hL.f
  have lu:=Ja.length
  refine ⟨_,rfl,lf,rfl,⟨_,KW.of hlf⟩,?_⟩
  refine kr (K:=K) (l:=lf) (xs:=us) (fun i ys H'=>KO H H'/\ys=dw (cD "number" fs i)) ⟨KO.refl _,rfl⟩ (fun i ys H' hi ⟨s',e'⟩=>⟨KW.of (s' _ _ hlf),by rw [e',fj];have:=gS "number" fs i;lia⟩) ?_ ?_
  ·rintro i x ys H1 T1 hx nT ⟨s1,rfl⟩
   obtain ⟨z,hz,pf,rfl,hpf⟩:=gr Ja hx
   have s2:=ad (o:=.tup [.int (i:Int),.ref pf]) nT
   have Jd:=s1.trans s2
   have Je:=(GA.mp hx).1
   refine ⟨T1,_,rfl,KP.of ac,rfl,_,_,rfl,_,_,rfl,⟨pf,_,rfl,KP.of (Jd _ _ hpf),rfl,_,_,rfl,_,_,rfl,rfl,rfl,trivial,?_⟩⟩
   refine ⟨_,rfl,rfl,_,rfl,bU (fun h=>?_) (fun h=>?_)⟩
   ·have h':z.2="number":=V.str.inj (of_decide_eq_true h)
    refine ⟨_,rfl,Nx.mk Je ⟨Jd,?_⟩⟩
    rw [ef hz,if_pos h']
    unfold dw
    rw [GK]
    rfl
   ·have h':¬ z.2="number":=fun e=>h (decide_eq_true (by rw [e]))
    refine Nx.mk Je ⟨Jd,?_⟩
    rw [ef hz,if_neg h',Hw]
  ·rintro ys H1 ⟨s1,rfl⟩ lb nlb
   rw [lu]
   have hil:=gS "number" fs fs.length
   have s2:=ad (o:=.lst (dw (cD "number" fs fs.length))) nlb
   have e2:(aI H1 lb (.lst (dw (cD "number" fs fs.length)))) lb=some (.lst (dw (cD "number" fs fs.length))):=ac
   have plb:p≠lb:=(hL.g.same s1).ne nlb
   generalize aI H1 lb (.lst (dw (cD "number" fs fs.length)))=H2 at *
   have s02:=s1.trans s2
   refine ⟨?_,?_⟩
   ·rintro σ H4 ⟨lb,r,rfl,g4,b4,plb,e4⟩
    refine ⟨?_,?_,?_⟩
    ·rintro H5 ⟨⟨lb',r',e,g5,b5,plb',e5⟩,Jb⟩
     cases e
     have hpos:0 < (cD "number" fs fs.length).length:=HR.mpr Jb
     refine ⟨_,rfl,_,rfl,_,rfl,lb,_,rfl,.inl (KW.of e5),?_⟩
     rw [fj]
     refine ⟨p,(cD "number" fs fs.length).length,rfl,g5,hpos,by lia,fun j H6 hj g6 b6=>?_⟩
     obtain ⟨z,hz⟩:=lX (Hv hj)
     refine ⟨lb,_,_,_,rfl,rfl,KW.of (b6 _ _ e5 plb.symm),bf (oS hj),aW,fun t nt=>?_⟩
     have s7:=ad (o:=.tup [.str "field",.int ((cD "number" fs fs.length)[j]:Nat)]) nt
     exact q _ _ (.fld (cD "number" fs fs.length)[j]) (g6.same s7) ((b5.trans b6).same s7) ⟨t,rfl,ac⟩ (i9 (by simp only [aX];exact ⟨z,hz⟩))
    ·rintro H5 ⟨lb',r',e,g5,b5,plb',e5⟩
     cases e
     refine ⟨?_,?_,?_⟩
     ·rintro H6 ⟨⟨lb',r',e,g6,b6,plb',e6⟩,Jb⟩
      cases e
      have L6:=hL.but g6 b6
      have hm1:1<=ms.length:=HR.mpr Jb
      refine ⟨_,rfl,_,rfl,_,rfl,p,"mark",d,lf,W,ps,ms,fs,rfl,L6.g,L6.t,L6.f,L6.f3,.inr rfl,by rw [de];exact hm1,by rw [de];exact L6.m10,fun v H7 b n g7 b7 hv hs=>⟨aW,fun t nt=>?_⟩⟩
      rw [de] at hs
      have s8:=ad (o:=.tup [.str "mark",v]) nt
      exact q _ _ (.mk b n) (g7.same s8) ((b6.trans b7).same s8) ⟨t,v,rfl,ac,hv.kt (al s8)⟩ (i9 (by simp only [aX];exact hs))
     ·rintro H6 ⟨lb',r',e,g6,b6,plb',e6⟩
      cases e
      have L6:=hL.but g6 b6
      refine ⟨_,rfl,rfl,_,rfl,bU (fun h=>?_) (fun h=>?_)⟩
      ·refine ⟨_,rfl,p,4,rfl,g6,by decide,by decide,fun j H7 hj g7 b7=>⟨aW,fun t nt=>?_⟩⟩
       have s8:=ad (o:=.tup [.str "number",.int (j:Nat)]) nt
       have h16:2 ^ 4<=2 ^ W:=Hk (by decide) L6.w4
       exact q _ _ (.num j) (g7.same s8) ((b6.trans b7).same s8) ⟨t,rfl,ac⟩ (i9 (by simp only [aX];lia))
      refine ⟨_,rfl,rfl,_,rfl,bU (fun h=>?_) (fun h=>?_)⟩
      ·obtain ⟨kvs,lp,lm,a1,a2,a3,a4,a5,a6⟩:=L6.t
       have hw:=L6.w24
       have h24:2 ^ W<=2 ^ 24:=Hk (by decide) hw
       have hpos:0 < 2 ^ W:=Nat.pow_pos (by decide)
       refine ⟨_,rfl,_,rfl,d,_,rfl,cj a1 a2,_,_,rfl,rfl,⟨by lia,by lia,by show (1:Int).natAbs < _;decide⟩,?_⟩
       refine ⟨p,2 ^ W,congrArg (fun x=>[V.ref p,V.int x]) (CI W),g6,hpos,by lia,fun j H7 hj g7 b7=>⟨aW,fun t nt=>?_⟩⟩
       have s8:=ad (o:=.tup [.str "number",.int (j:Nat)]) nt
       exact q _ _ (.num j) (g7.same s8) ((b6.trans b7).same s8) ⟨t,rfl,ac⟩ (i9 (by simp only [aX];exact hj))
      refine ⟨_,rfl,_,rfl,_,rfl,p,"place",d,lf,W,ps,ms,fs,rfl,L6.g,L6.t,L6.f,L6.f3,.inl rfl,by rw [cP];exact L6.p1,by rw [cP];exact L6.p10,fun v H7 b n g7 b7 hv hs=>⟨aW,fun t nt=>?_⟩⟩
      rw [cP] at hs
      have s8:=ad (o:=.tup [.str "place",v]) nt
      exact q _ _ (.pl b n) (g7.same s8) ((b6.trans b7).same s8) ⟨t,v,rfl,ac,hv.kt (al s8)⟩ (i9 (by simp only [aX];exact hs))
     ·have L5:=hL.but g5 b5
      refine ⟨_,rfl,rfl,_,rfl,bU (fun h=>?_) (fun h=>ck ⟨lb,r,rfl,g5,b5,plb,e5⟩)⟩
      obtain ⟨kvs,lp,lm,a1,a2,a3,a4,a5,a6⟩:=L5.t
      refine ⟨_,rfl,d,_,rfl,cj a1 a4,aW,fun le nle=>?_⟩
      have s6:=ad (o:=.lst []) nle
      have e6:(aI H5 le (.lst [])) le=some (.lst []):=ac
      generalize aI H5 le (.lst ([]:List V))=H6 at *
      refine oU (fun z hz=>(L5.mn z hz).1) (s6 _ _ a6) e6 ⟨_,rfl,bU (fun h=>⟨⟨lb,r,rfl,g5.same s6,b5.same s6,plb,s6 _ _ e5⟩,?_⟩) (fun h=>⟨lb,r,rfl,g5.same s6,b5.same s6,plb,s6 _ _ e5⟩)⟩
      intro e
      rw [e] at h
      simp at h
    ·refine ⟨_,rfl,rfl,_,rfl,bU (fun h=>?_) (fun h=>ck ⟨lb,r,rfl,g4,b4,plb,e4⟩)⟩
     refine ⟨_,rfl,aW,fun le nle=>?_⟩
     have s6:=ad (o:=.lst []) nle
     have e6:(aI H4 le (.lst [])) le=some (.lst []):=ac
     generalize aI H4 le (.lst ([]:List V))=H6 at *
     refine oT (s6 _ _ e4) e6 ⟨_,rfl,bU (fun h=>⟨⟨lb,r,rfl,g4.same s6,b4.same s6,plb,s6 _ _ e4⟩,?_⟩) (fun h=>⟨lb,r,rfl,g4.same s6,b4.same s6,plb,s6 _ _ e4⟩)⟩
     intro e
     rw [e] at h
     simp at h
   ·refine ⟨_,rfl,p,6,rfl,hL.g.same s02,by decide,by decide,fun r H4 IU g4 b4=>?_⟩
    exact ⟨lb,r,rfl,g4,(dB s02).trans b4,plb,b4 _ _ e2 plb.symm⟩
theorem CJ (h:i < 9):([V.str "+",.str "-",.str "&",.str "|",.str "^",.str "<<",.str ">>",.str "<",.str "="]:List V)[i]?=some (.str (La.getD i ""))/\La.getD i ""∈La:=by
 have e:([V.str "+",.str "-",.str "&",.str "|",.str "^",.str "<<",.str ">>",.str "<",.str "="]:List V)=ai La:=rfl
 have hl:i < La.length:=h
 rw [e]
 unfold ai
 rw [GY,GJ hl,Hg,GJ hl]
 exact ⟨rfl,Hv hl⟩
def sn:Ed->PyData
 | .num n=>.tuple [.str "number",.int (n:Nat)]
 | .fld j=>.tuple [.str "field",.int (j:Nat)]
 | .pl b n=>.tuple [.str "place",.tuple [.str (eC b),.int (n:Nat)]]
 | .mk b n=>.tuple [.str "mark",.tuple [.str (eC b),.int (n:Nat)]]
 | .cell e=>.tuple [.str "cell",sn e]
 | .two o x y=>.tuple [.str o,sn x,sn y]
theorem zS (b:Bool):li (eC b)=true:=by cases b<;>decide +kernel
variable {o:Str}
theorem zT (h:o∈La):li o=true:=by
 have:∀ z∈La,li z=true:=by decide +kernel
 exact this o h
variable {n:Nat}
theorem MG.td {b:Bool} (h:MG H b n v):Td H v (.tuple [.str (eC b),.int (n:Nat)]):=by
 obtain ⟨q,rfl,e⟩:=h
 exact .tup e (.cons (.str _ (zS b)) (.cons (.int _) .nil))
theorem LY.td {fs:List (Str×Str)}:∀ {m:Nat} {e:Ed} {v:V},LY H e v->aX W ps ms fs m e->Td H v (sn e)
 | _,.num _,_,⟨p,rfl,e⟩,_=>.tup e (.cons (.str _ (by decide +kernel)) (.cons (.int _) .nil))
 | _,.fld _,_,⟨p,rfl,e⟩,_=>.tup e (.cons (.str _ (by decide +kernel)) (.cons (.int _) .nil))
 | _,.pl _ _,_,⟨p,u,rfl,e,h⟩,_=>.tup e (.cons (.str _ (by decide +kernel)) (.cons h.td .nil))
 | _,.mk _ _,_,⟨p,u,rfl,e,h⟩,_=>.tup e (.cons (.str _ (by decide +kernel)) (.cons h.td .nil))
 | 0,.cell _,_,_,h=>absurd h (by simp [aX])
 | m+1,.cell e,_,⟨p,u,rfl,a,b⟩,h=>.tup a (.cons (.str _ (by decide +kernel)) (.cons (LY.td (m:=m) (e:=e) b (by simpa [aX] using h)) .nil))
 | 0,.two _ _ _,_,_,h=>absurd h (by simp [aX])
 | m+1,.two o x y,_,⟨p,u,t,rfl,a,b,c⟩,h=>by
  have h':o∈La/\aX W ps ms fs m x/\aX W ps ms fs m y:=by simpa [aX] using h
  exact .tup a (.cons (.str _ (zT h'.1)) (.cons (LY.td (m:=m) b h'.2.1) (.cons (LY.td (m:=m) c h'.2.2) .nil)))
theorem xM (b:Bool) (n:Nat):(PyData.tuple [.str (eC b),.int (n:Nat)]).depth<=3:=by simp [PyData.depth,PyData.depthAll]
theorem iE {fs:List (Str×Str)}:∀ {m:Nat} {e:Ed},aX W ps ms fs m e->(sn e).depth<=m+5
 | _,.num _,_=>by simp [sn,PyData.depth,PyData.depthAll]
 | _,.fld _,_=>by simp [sn,PyData.depth,PyData.depthAll]
 | _,.pl _ _,_=>by simp [sn,PyData.depth,PyData.depthAll]
 | _,.mk _ _,_=>by simp [sn,PyData.depth,PyData.depthAll]
 | 0,.cell _,h=>absurd h (by simp [aX])
 | m+1,.cell e,h=>by
  have:=iE (m:=m) (e:=e) (by simpa [aX] using h)
  simp only [sn,PyData.depth,PyData.depthAll]
  lia
 | 0,.two _ _ _,h=>absurd h (by simp [aX])
 | m+1,.two o x y,h=>by
  have h':o∈La/\aX W ps ms fs m x/\aX W ps ms fs m y:=by simpa [aX] using h
  have:=iE (m:=m) h'.2.1
  have:=iE (m:=m) h'.2.2
  simp only [sn,PyData.depth,PyData.depthAll]
  lia
theorem ky {fs:List (Str×Str)}:∀ {m:Nat} {e:Ed},aX W ps ms fs m e->aX W ps ms fs (m+1) e
 | 0,.num _,h=>i9 h _
 | _+1,.num _,h=>by simpa [aX] using h
 | 0,.fld _,h=>i9 h _
 | _+1,.fld _,h=>by simpa [aX] using h
 | 0,.pl _ _,h=>i9 h _
 | _+1,.pl _ _,h=>by simpa [aX] using h
 | 0,.mk _ _,h=>i9 h _
 | _+1,.mk _ _,h=>by simpa [aX] using h
 | 0,.cell _,h=>absurd h (by simp [aX])
 | m+1,.cell e,h=>by
  have:=ky (m:=m) (e:=e) (by simpa [aX] using h)
  simpa [aX] using this
 | 0,.two _ _ _,h=>absurd h (by simp [aX])
 | m+1,.two o x y,h=>by
  have h':o∈La/\aX W ps ms fs m x/\aX W ps ms fs m y:=by simpa [aX] using h
  have h1:=ky (m:=m) h'.2.1
  have h2:=ky (m:=m) h'.2.2
  simp only [aX]
  exact ⟨h'.1,h1,h2⟩
theorem Ms:ay ["_law_stream_here","_law_table_here","_law_fields","_law_deep","_law_way","_law_op"] ["_law_stream_here","_law_table_here","_law_fields","_law_deep"] (aj rD):=cH (by decide +kernel)
variable {m:Nat}
theorem ja (F:K7 K "_law_expr" "_law_expr" rD f fd) (TK':Fn P w K mg base "_law_take" 1 ["_law_stream_here","_law_many"] eB) (AT:Fn P w K mg base "_law_atom" 3 ["_law_stream_here","_law_table_here","_law_fields"] oV) (EX:Fn P w K mg base "_law_expr" n ["_law_stream_here","_law_table_here","_law_fields","_law_deep"] (ku m)) (hn:3<=n):KU P w K mg base bY (n+1) f fd ["_law_stream_here","_law_table_here","_law_fields","_law_deep"] (ku (m+1)):=by
 have ZZ:=Ms
 walk_at "o"
 ·obtain ⟨p,d,lf,W,ps,ms,fs,k,rfl,hL,hk1,hkm,q⟩:=h
  have IS:KY 1 _:=hr.mono (by lia)
  have hr3:KY 3 _:=hr.mono (by lia)
  refine ⟨_,ae (ap (i:=4) Ms.nd rfl (Or.inl rfl) (am TK' IS rfl (aa (pv 0) (aa ag ab))))
   (ae (aM (c6 (fun _ H'=>K3 H' p/\K8 p H H') (fun _ H'=>K3 H' p/\K8 p H H'/\2<=k) (PW.pt (fL (ak dD (pv 3) ag (av _)) (dL (ak dD (pv 4) ag (av _)))))) (ah (ao (am AT hr3 rfl (aa (pv 0) (aa (pv 1) (aa (pv 2) ab)))))) aH)
   (ae (aM (ak be (pv 4) ag (av _)) (ah (ao (aC (aa af (aa (am EX hr rfl (aa (pv 0) (aa (pv 1) (aa (pv 2) (aa (ar eR (pv 3) ag) ab))))) ab))))) aH)
   (ae (ap (i:=5) Ms.nd rfl (Or.inl rfl) (aq aL (aB (aa af (aa af (aa af (aa af (aa af (aa af (aa af (aa af (aa af ab)))))))))) (am TK' IS rfl (aa (pv 0) (aa ag ab))) (fun _ _=>rfl)))
   (ah (ao (aC (aa (pv 5) (aa (am EX hr rfl (aa (pv 0) (aa (pv 1) (aa (pv 2) (aa (ar eR (pv 3) ag) ab))))) (aa (am EX hr rfl (aa (pv 0) (aa (pv 1) (aa (pv 2) (aa (ar eR (pv 3) ag) ab))))) ab))))))))),?_⟩
  refine ⟨_,rfl,p,6,rfl,hL.g,by decide,by decide,fun r H1 IU g1 b1=>?_⟩
  refine ⟨?_,?_,?_⟩
  ·rintro H2 ⟨g2,b2⟩
   exact ⟨_,rfl,_,rfl,_,rfl,p,d,lf,W,ps,ms,fs,rfl,hL.but g2 b2,fun v H3 e g3 b3 hv he=>q v H3 e g3 (b2.trans b3) hv (he _)⟩
  ·rintro H2 ⟨g2,b2,hk2⟩
   have L2:=hL.but g2 b2
   obtain ⟨k',rfl⟩:∃ k',k=k'+2:=⟨k - 2,by lia⟩
   have ek:((k'+2:Nat):Int) - 1=((k'+1:Nat):Int):=by lia
   cases m with
   | zero=>lia
   | succ m=>
    refine ⟨_,rfl,rfl,_,rfl,bU (fun h=>?_) (fun h=>?_)⟩
    ·refine ⟨_,rfl,_,rfl,_,rfl,_,rfl,_,_,rfl,rfl,?_⟩
     refine ⟨p,d,lf,W,ps,ms,fs,k'+1,congrArg (fun x=>[V.ref p,V.ref d,V.ref lf,V.int x]) ek,L2,by lia,by lia,fun v H3 e g3 b3 hv he=>⟨aW,fun t nt=>?_⟩⟩
     have s4:=ad (o:=.tup [.str "cell",v]) nt
     exact q _ _ (.cell e) (g3.same s4) ((b2.trans b3).same s4) ⟨t,v,rfl,ac,hv.kt (al s4)⟩ (by show aX W ps ms fs (k'+1) (.cell e);simp only [aX];exact he)
    refine ⟨aW,fun lo no=>?_⟩
    have s3:=ad (o:=.lst [.str "+",.str "-",.str "&",.str "|",.str "^",.str "<<",.str ">>",.str "<",.str "="]) no
    have e3:(aI H2 lo (.lst [.str "+",.str "-",.str "&",.str "|",.str "^",.str "<<",.str ">>",.str "<",.str "="])) lo=some (.lst [.str "+",.str "-",.str "&",.str "|",.str "^",.str "<<",.str ">>",.str "<",.str "="]):=ac
    have plo:p≠lo:=g2.ne no
    generalize aI H2 lo (.lst [V.str "+",.str "-",.str "&",.str "|",.str "^",.str "<<",.str ">>",.str "<",.str "="])=H3 at *
    refine ⟨_,rfl,p,9,rfl,g2.same s3,by decide,by decide,fun oi H4 ho g4 b4=>?_⟩
    obtain ⟨ho1,ho2⟩:=CJ ho
    refine ⟨lo,_,_,_,rfl,rfl,KW.of (b4 _ _ e3 plo.symm),bf ho1,?_⟩
    have b04:K8 p H H4:=(b2.same s3).trans b4
    have L4:=hL.but g4 b04
    refine ⟨_,rfl,_,rfl,_,rfl,_,rfl,_,rfl,_,_,rfl,rfl,?_⟩
    refine ⟨p,d,lf,W,ps,ms,fs,k'+1,congrArg (fun x=>[V.ref p,V.ref d,V.ref lf,V.int x]) ek,L4,by lia,by lia,fun v5 H5 e5 g5 b5 hv5 he5=>?_⟩
    have L5:=L4.but g5 b5
    refine ⟨_,rfl,_,rfl,_,rfl,_,rfl,_,_,rfl,rfl,?_⟩
    refine ⟨p,d,lf,W,ps,ms,fs,k'+1,congrArg (fun x=>[V.ref p,V.ref d,V.ref lf,V.int x]) ek,L5,by lia,by lia,fun v6 H6 e6 g6 b6 hv6 he6=>⟨aW,fun t nt=>?_⟩⟩
    have s7:=ad (o:=.tup [.str (La.getD oi ""),v5,v6]) nt
    exact q _ _ (.two (La.getD oi "") e5 e6) (g6.same s7) (((b04.trans b5).trans b6).same s7) ⟨t,v5,v6,rfl,ac,(hv5.kt (dM g5 b6)).kt (al s7),hv6.kt (al s7)⟩ (by show aX W ps ms fs (k'+1) (.two _ e5 e6);simp only [aX];exact ⟨ho2,he5,he6⟩)
  ·refine ⟨_,rfl,_,_,rfl,rfl,_,rfl,bU (fun h=>?_) (fun h=>?_)⟩
   ·exact pP ⟨g1,b1⟩
   ·have hk2:2<=k:=by
     have:¬ ((k:Int) < 2):=fun e=>h (decide_eq_true e)
     lia
    refine ⟨_,rfl,_,_,rfl,rfl,_,rfl,bU (fun h=>?_) (fun h=>?_)⟩
    ·exact ⟨g1,b1⟩
    ·exact ⟨g1,b1,hk2⟩
def Sd.isCell:Sd->Bool
 | .cell _ _=>true
 | _=>false
def eE (W:Nat) (ps ms:List Str) (fs:List (Str×Str)) (m:Nat):Sd->Prop
 | .cell a e=>aX W ps ms fs (m - 1) a/\aX W ps ms fs m e
 | .pl b n e=>cw ps "place" fs b n/\aX W ps ms fs m e
 | .mk b n e=>cw ms "mark" fs b n/\aX W ps ms fs m e
def A5:Sd->PyData
 | .cell a e=>.tuple [.str "cell",sn a,sn e]
 | .pl b n e=>.tuple [.str "place",.tuple [.str (eC b),.int (n:Nat)],sn e]
 | .mk b n e=>.tuple [.str "mark",.tuple [.str (eC b),.int (n:Nat)],sn e]
def Gh:Sd->Str
 | .cell _ _=>"cell"
 | .pl _ _ _=>"place"
 | .mk _ _ _=>"mark"
theorem xN (g:Sd):decide (V.str (Gh g)=V.str "cell")=g.isCell:=by
 cases g with
 | cell a e=>exact decide_eq_true rfl
 | pl b n e=>exact decide_eq_false fun e=>absurd (V.str.inj e) (by show ("place":Str)≠"cell";decide +kernel)
 | mk b n e=>exact decide_eq_false fun e=>absurd (V.str.inj e) (by show ("mark":Str)≠"cell";decide +kernel)
variable {g:Sd}
theorem Ll.at (h:Ll H g v):∃ p r,v=.ref p/\H p=some (.tup (.str (Gh g)::r)):=by
 cases g with
 | cell a e=>obtain ⟨p,u,t,a,b,_⟩:=h;exact ⟨p,_,a,b⟩
 | pl b n e=>obtain ⟨p,u,t,a,b,_⟩:=h;exact ⟨p,_,a,b⟩
 | mk b n e=>obtain ⟨p,u,t,a,b,_⟩:=h;exact ⟨p,_,a,b⟩
theorem Ll.td {fs:List (Str×Str)} (h:Ll H g v) (ho:eE W ps ms fs m g):Td H v (A5 g):=by
 cases g with
 | cell a e=>obtain ⟨p,u,t,rfl,b,c,d⟩:=h;exact .tup b (.cons (.str _ (by decide +kernel)) (.cons (c.td ho.1) (.cons (d.td ho.2) .nil)))
 | pl b n e=>obtain ⟨p,u,t,rfl,b,c,d⟩:=h;exact .tup b (.cons (.str _ (by decide +kernel)) (.cons c.td (.cons (d.td ho.2) .nil)))
 | mk b n e=>obtain ⟨p,u,t,rfl,b,c,d⟩:=h;exact .tup b (.cons (.str _ (by decide +kernel)) (.cons c.td (.cons (d.td ho.2) .nil)))
theorem sr {fs:List (Str×Str)}:∀ {us:List V} {s:List Sd},Paired (fun v g=>Ll H g v) us s->(∀ g∈s,eE W ps ms fs m g)->K9 H us (s.map A5)
 | _,_,.nil,_=>.nil
 | _,_,.cons h t,ho=>.cons (Ll.td h (ho _ Gz)) (sr t fun g hg=>ho g (GD _ hg))
theorem xO:∀ {us:List V} {ds:List PyData},K9 H us ds->us.length=ds.length
 | _,_,.nil=>rfl
 | _,_,.cons _ t=>by rw [GB,GB,xO t]
theorem zU {ds:List PyData} (ha:H a=some (.lst us)) (ht:K9 H us ds) (hb:H b=some (.lst [])) (q:Q (.bl (decide (us.length=0))) H):Nw K (.ref a) (.ref b) H Q:=by
 have hl:=xO ht
 refine ⟨.list ds,_,.lst (KW.of ha) ht.dt,.lst (KW.of hb) .nil,ht.lay,rfl,Hl (Nat.min_le_right _ _) (by simp [PyData.depth,PyData.depthAll]),?_⟩
 have e:PyData.eqv (.list ds) (.list [])=decide (us.length=0):=by
  rw [hl]
  cases ds with
  | nil=>simp [PyData.eqv,PyData.eqvAll]
  | cons x r=>simp [PyData.eqv,PyData.eqvAll]
 rw [e]
 exact q
inductive oW (m:Nat) (vs:List V) (H:Hp) (Q:VK) (Z3:XK):Prop
 | mk (p d lf W ps ms fs:_) (k:Nat):vs=[.ref p,.ref d,.ref lf,.int k]->Lx H p d lf W ps ms fs->2<=k->k<=m->(∀ t us (s:List Sd) H',K3 H' p->K8 p H H'->H' t=some (.tup us)->Paired (fun v g=>Ll H' g v) us s->s.length<=4->(s.filter Sd.isCell).length<=1->(∀ g∈s,eE W ps ms fs (k - 1) g)->Q (.ref t) H')->oW m vs H Q Z3
theorem zV {r:Nat} (h:r < 8):([V.int 0,.int 1,.int 1,.int 2,.int 2,.int 3,.int 1,.int 4]:List V)[r]?=some (.int (([0,1,1,2,2,3,1,4]:List Nat).getD r 0:Nat))/\([0,1,1,2,2,3,1,4]:List Nat).getD r 0<=4:=by
 have:∀ r < 8,([0,1,1,2,2,3,1,4]:List Nat).getD r 0<=4:=by decide
 refine ⟨?_,this r h⟩
 match r,h with
 | 0,_=>rfl
 | 1,_=>rfl
 | 2,_=>rfl
 | 3,_=>rfl
 | 4,_=>rfl
 | 5,_=>rfl
 | 6,_=>rfl
 | 7,_=>rfl
structure SI (H:Hp) (p ls:Addr) (W:Nat) (ps ms:List Str) (fs:List (Str×Str)) (m i:Nat) (H':Hp):Prop where
 g:K3 H' p
 b:K8 p H H'
 x:∃ us,∃ s:List Sd,H' ls=some (.lst us)/\Paired (fun v g=>Ll H' g v) us s/\s.length=i/\(s.filter Sd.isCell).length<=1/\∀ g∈s,eE W ps ms fs m g
variable {ls:Addr}
theorem SI.next {H H':Hp} {fs:List (Str×Str)} (h:SI H p ls W ps ms fs m i H') (nl:H ls=none) (pl:p≠ls) {s:List Sd} (e:H' ls=some (.lst us)) (hp:Paired (fun v g=>Ll H' g v) us s) (hl:s.length=i) (hc:(s.filter Sd.isCell).length<=1) (ho:∀ g∈s,eE W ps ms fs m g) (hv:Ll H' g v) (hg:eE W ps ms fs m g) (hgc:g.isCell=true->s.filter Sd.isCell=[]):SI H p ls W ps ms fs m (i+1) (aI H' ls (.lst (us++[v]))):=by
 have k:K5 H' (aI H' ls (.lst (us++[v]))):=fun b xs eb=>by
  rw [aw]
  ·exact eb
  ·rintro rfl
   rw [e] at eb
   cases eb
 refine ⟨?_,?_,us++[v],s++[g],ac,gq (R:=fun v' g=>Ll (aI H' ls (.lst (us++[v]))) g v') (hv.kt k) (bS (R:=fun v g=>Ll H' g v) (fun _ _ h=>Ll.kt k h) hp),by rw [Gy,hl];rfl,?_,?_⟩
 ·obtain ⟨x,y,z,ex⟩:=h.g
  exact ⟨x,y,z,by rw [aw pl];exact ex⟩
 ·intro b o eb nb
  rw [aw (aK eb nl)]
  exact h.b _ _ eb nb
 ·rw [Ix,Gy]
  cases hgi:g.isCell with
  | true=>rw [hgc hgi];simp [hgi]
  | false=>simp [hgi];lia
 ·intro g' hg'
  rcases GP.mp hg' with h'|h'
  ·exact ho g' h'
  ·rw [G8.mp h'];exact hg
variable {H2:Hp}
theorem SI.but {fs:List (Str×Str)} (h:SI H p ls W ps ms fs m i H1) (pl:p≠ls) (g:K3 H2 p) (b:K8 p H1 H2):SI H p ls W ps ms fs m i H2:=by
 obtain ⟨us,s,e,hp,h1,h2,h3⟩:=h.x
 exact ⟨g,h.b.trans b,us,s,b _ _ e pl.symm,bS (R:=fun v g=>Ll H1 g v) (fun _ _ h'=>Ll.kt (dM h.g b) h') hp,h1,h2,h3⟩
theorem Lz:ay ["_law_stream_here","_law_table_here","_law_fields","_law_deep","_law_many","_law_sets_here","_law_k","_law_way","_law_value"] ["_law_stream_here","_law_table_here","_law_fields","_law_deep"] (aj nY):=cH (by decide +kernel)
theorem Et:(["_law_one"]:List Str).Nodup:=by decide +kernel
inductive JS (H:Hp) (p:Addr) (d:Addr) (lf:Addr) (ls:Addr) (W:Nat) (ps:List Str) (ms:List Str) (fs:List (Str×Str)) (k:Nat) (many:Nat) (m:Nat) (i:Nat) (σ:St) (H':Hp):Prop
 | mk (r:Nat) (v:V) (e:Ed):σ=[some (.ref p),some (.ref d),some (.ref lf),some (.int k),some (.int many),some (.ref ls),some (.int (i:Nat)),some (.int r),some v]->SI H p ls W ps ms fs m i H'->LY H' e v->aX W ps ms fs m e->JS H p d lf ls W ps ms fs k many m i σ H'
theorem xP (F:K7 K "_law_sets" "_law_sets" nY f fd) (B:Bl mg) (TK':Fn P w K mg base "_law_take" 1 ["_law_stream_here","_law_many"] eB) (SL:Fn P w K mg base "_law_sel" 2 ["_law_stream_here","_law_sort","_law_table_here","_law_fields"] lY) (EX:Fn P w K mg base "_law_expr" n ["_law_stream_here","_law_table_here","_law_fields","_law_deep"] (ku (m+1))) (hn:2<=n):KU P w K mg base bY (n+1) f fd ["_law_stream_here","_law_table_here","_law_fields","_law_deep"] (oW (m+1)):=by
 have ZZ:=Lz
 walk_at "o"
 ·obtain ⟨p,d,lf,W,ps,ms,fs,k,rfl,hL,hk2,hkm,q⟩:=h
  have hu:=dP hr
  have IS:KY 1 _:=hr.mono (by lia)
  have IU:KY 2 _:=hr.mono (by lia)
  have sz:(100000:Nat)<=sizeLine:=by decide
  refine ⟨_,ae (ap (i:=4) Lz.nd rfl (Or.inl rfl) (aq aL (aB (aa ag (aa ag (aa ag (aa ag (aa ag (aa ag (aa ag (aa ag ab))))))))) (am TK' IS rfl (aa (pv 0) (aa ag ab))) (fun _ _=>rfl)))
   (ae (ap (i:=5) Lz.nd rfl (Or.inl rfl) (aB ab))
   (ae (cr PassesOwn.never rfl (gC rfl B.range (aa (pv 4) ab)) (az (i:=6) Lz.nd rfl (Or.inl rfl))
    (ae (ap (i:=7) Lz.nd rfl (Or.inl rfl) (am TK' IS rfl (aa (pv 0) (aa ag ab))))
    (ae (ap (i:=8) Lz.nd rfl (Or.inl rfl) (am EX hr rfl (aa (pv 0) (aa (pv 1) (aa (pv 2) (aa (pv 3) ab))))))
    (ah (aM (c6 (fun σ H'=>∃ ls many i,JS H p d lf ls W ps ms fs k many (k - 1) i σ H'/\H ls=none/\p≠ls/\i < 4/\∃ us,∃ s:List Sd,H' ls=some (.lst us)/\Paired (fun v g=>Ll H' g v) us s/\s.length=i/\s.filter Sd.isCell=[]/\∀ g∈s,eE W ps ms fs (k - 1) g) (fun σ H'=>∃ ls many i,JS H p d lf ls W ps ms fs k many (k - 1) i σ H'/\H ls=none/\p≠ls/\i < 4) (PW.pt (bZ (ak be (pv 7) ag (av _)) (bJ (ak (Nb hr) (fV (N':=["_law_one"]) (ix:=[none]) (sc0:=aj nY) (N:=["_law_stream_here","_law_table_here","_law_fields","_law_deep","_law_many","_law_sets_here","_law_k","_law_way","_law_value"]) rfl (by decide +kernel) (fr (pv 5))
      (fun C' cl s H fp=>az (i:=0) Et rfl (Or.inl rfl) (.inr rfl)) (fun _ _ _ _ _=>jr (ak be (aq (tD (K:=K) rfl) (pv 0) ag (fun _ _=>rfl)) af (av _))) (fun C' cl s H fp=>pv 0)) (aB ab) (av _))))))
     (ah (aN (b9 GS GR GQ bq (pv 5) (aa (aC (aa af (aa (am EX hr rfl (aa (pv 0) (aa (pv 1) (aa (pv 2) (aa (ar eR (pv 3) ag) ab))))) (aa (pv 8) ab)))) ab))))
     (ah (aM (c6 (fun σ H'=>(∃ ls many i,JS H p d lf ls W ps ms fs k many (k - 1) i σ H'/\H ls=none/\p≠ls/\i < 4)/\ms≠[]) (fun σ H'=>∃ ls many i,JS H p d lf ls W ps ms fs k many (k - 1) i σ H'/\H ls=none/\p≠ls/\i < 4) (PW.pt (bZ (ak be (pv 7) ag (av _)) (bJ (ak (Lm hr) (bD hu (pv 1) af (fun _ _=>rfl)) (aB ab) (av _))))))
      (ah (aN (b9 GS GR GQ bq (pv 5) (aa (aC (aa af (aa (am SL IU rfl (aa (pv 0) (aa af (aa (pv 1) (aa (pv 2) ab))))) (aa (pv 8) ab)))) ab))))
      (ah (aN (b9 GS GR GQ bq (pv 5) (aa (aC (aa af (aa (am SL IU rfl (aa (pv 0) (aa af (aa (pv 1) (aa (pv 2) ab))))) (aa (pv 8) ab)))) ab)))))))))))
   (ah (ao (aU bX (by rfl) B.tuple cx (aa (pv 5) ab)))))),?_⟩
  refine ⟨aW,fun l8 n8=>?_⟩
  have s1:=ad (o:=.lst [V.int 0,.int 1,.int 1,.int 2,.int 2,.int 3,.int 1,.int 4]) n8
  have e1:(aI H l8 (.lst [V.int 0,.int 1,.int 1,.int 2,.int 2,.int 3,.int 1,.int 4])) l8=some (.lst [V.int 0,.int 1,.int 1,.int 2,.int 2,.int 3,.int 1,.int 4]):=ac
  have pl8:p≠l8:=hL.g.ne n8
  generalize aI H l8 (.lst [V.int 0,.int 1,.int 1,.int 2,.int 2,.int 3,.int 1,.int 4])=H1 at *
  refine ⟨_,rfl,p,8,rfl,hL.g.same s1,by decide,by decide,fun mi H2 hmi g2 b2=>?_⟩
  obtain ⟨hma,hmb⟩:=zV hmi
  refine ⟨l8,_,_,_,rfl,rfl,KW.of (b2 _ _ e1 pl8.symm),bf hma,?_⟩
  generalize ([0,1,1,2,2,3,1,4]:List Nat).getD mi 0=many at *
  have b02:K8 p H H2:=(dB s1).trans b2
  refine ⟨aW,fun ls nls=>?_⟩
  have s3:=ad (o:=.lst []) nls
  have e3:(aI H2 ls (.lst [])) ls=some (.lst []):=ac
  have pls:p≠ls:=g2.ne nls
  have nl:H ls=none:=sk b02 g2 nls
  generalize aI H2 ls (.lst ([]:List V))=H3 at *
  have I3:SI H p ls W ps ms fs (k - 1) 0 H3:=⟨g2.same s3,b02.same s3,[],[],e3,.nil,rfl,by decide,fun g hg=>by cases hg⟩
  refine ⟨_,rfl,_,rfl,by lia,by lia,?_⟩
  rw [show ((many:Int)).toNat=many from HL many]
  refine gE (lo:=0) (n:=many) (fun i σ H'=>∃ v6 v7 v8:Option V,σ=[some (.ref p),some (.ref d),some (.ref lf),some (.int k),some (.int many),some (.ref ls),v6,v7,v8]/\SI H p ls W ps ms fs (k - 1) i H') ⟨_,_,_,rfl,I3⟩ ?_ ?_
  ·rintro i σ H4 hi ⟨v6,v7,v8,rfl,I4⟩
   have hi':i < many:=hi
   have e0:((0:Int)+(i:Int))=(i:Int):=by lia
   rw [e0]
   refine ⟨_,rfl,p,4,rfl,I4.g,by decide,by decide,fun r H5 hr5 g5 b5=>?_⟩
   have I5:=I4.but pls g5 b5
   refine ⟨_,rfl,_,rfl,_,rfl,_,rfl,p,d,lf,W,ps,ms,fs,k,rfl,hL.but I5.g I5.b,by lia,hkm,fun v H6 e g6 b6 hv he=>?_⟩
   have I6:=I5.but pls g6 b6
   have fin:∀ (H8:Hp) (r:Nat) (v vn:V) (g:Sd),SI H p ls W ps ms fs (k - 1) i H8->∀ us,∀ s:List Sd,H8 ls=some (.lst us)->Paired (fun v g=>Ll H8 g v) us s->s.length=i->(s.filter Sd.isCell).length<=1->(∀ g∈s,eE W ps ms fs (k - 1) g)->Ll H8 g vn->eE W ps ms fs (k - 1) g->(g.isCell=true->s.filter Sd.isCell=[])->∃ v6 v7 v8:Option V,[some (.ref p),some (.ref d),some (.ref lf),some (.int k),some (.int many),some (.ref ls),some (.int (i:Nat)),some (.int r),some v]=[some (.ref p),some (.ref d),some (.ref lf),some (.int k),some (.int many),some (.ref ls),v6,v7,v8]/\SI H p ls W ps ms fs (k - 1) (i+1) (aI H8 ls (.lst (us++[vn]))):=fun H8 r v vn g I8 us s e1 e2 e3 e4 e5 e6 e7 e8=>⟨_,_,_,rfl,I8.next nl pls e1 e2 e3 e4 e5 e6 e7 e8⟩
   refine ⟨?_,?_,?_⟩
   ·rintro H7 ⟨ls',many',i',⟨r',v',e',eσ,I7,hv7,he7⟩,nl',pls',hi4,us,ss,els,Ja,hsl,hsc,hso⟩
    have ei:(i:Int)=(i':Int):=by
     have:=congrArg (fun l:List (Option V)=>l[6]?) eσ
     simpa using this
    have ei':i=i':=by lia
    subst ei'
    cases eσ
    refine ⟨_,rfl,.inl ⟨rfl,_,KW.of els⟩,?_⟩
    refine ⟨_,rfl,_,rfl,_,rfl,_,rfl,_,_,rfl,rfl,?_⟩
    obtain ⟨k',rfl⟩:∃ k',k=k'+2:=⟨k - 2,by lia⟩
    have ek:((k'+2:Nat):Int) - 1=((k'+1:Nat):Int):=by lia
    refine ⟨p,d,lf,W,ps,ms,fs,k'+1,congrArg (fun x=>[V.ref p,V.ref d,V.ref lf,V.int x]) ek,hL.but I7.g I7.b,by lia,by lia,fun va H8 ea g8 b8 hva hea=>?_⟩
    refine ⟨_,rfl,aW,fun t nt=>?_⟩
    have s9:=ad (o:=.tup [.str "cell",va,v]) nt
    have e9:(aI H8 t (.tup [.str "cell",va,v])) t=some (.tup [.str "cell",va,v]):=ac
    generalize aI H8 t (.tup [V.str "cell",va,v])=H9 at *
    have b79:K8 p H7 H9:=b8.same s9
    have I9:=I7.but pls (g8.same s9) b79
    have k79:K5 H7 H9:=dM I7.g b79
    refine ⟨ls,_,_,rfl,rfl,b79 _ _ els pls.symm,?_,?_⟩
    ·have:=Ja.length
     lia
    exact fin H9 _ _ _ (.cell ea e') I9 us ss (b79 _ _ els pls.symm) (bS (R:=fun v g=>Ll H7 g v) (fun _ _ h'=>Ll.kt k79 h') Ja) hsl (by rw [hsc];decide) hso ⟨t,va,v,rfl,e9,hva.kt (al s9),hv7.kt k79⟩ ⟨hea,he7⟩ (fun _=>hsc)
   ·rintro H7 ⟨ls',many',i',⟨r',v',e',eσ,I7,hv7,he7⟩,nl',pls',hi4⟩
    have ei:(i:Int)=(i':Int):=by
     have:=congrArg (fun l:List (Option V)=>l[6]?) eσ
     simpa using this
    have ei':i=i':=by lia
    subst ei'
    cases eσ
    refine ⟨?_,?_,?_⟩
    ·rintro H8 ⟨⟨ls',many',i',⟨r',v',e',eσ,I8,hv8,he8⟩,nl',pls',hi4⟩,Jb⟩
     have ei:(i:Int)=(i':Int):=by
      have:=congrArg (fun l:List (Option V)=>l[6]?) eσ
      simpa using this
     have ei':i=i':=by lia
     subst ei'
     cases eσ
     obtain ⟨us,ss,els,Ja,hsl,hsc,hso⟩:=I8.x
     have L8:=hL.but I8.g I8.b
     have hm1:1<=ms.length:=HR.mpr Jb
     refine ⟨_,rfl,.inl ⟨rfl,_,KW.of els⟩,?_⟩
     refine ⟨_,rfl,_,rfl,_,rfl,p,"mark",d,lf,W,ps,ms,fs,rfl,L8.g,L8.t,L8.f,L8.f3,.inr rfl,by rw [de];exact hm1,by rw [de];exact L8.m10,fun va Ha bb nn ga ba hva hs=>?_⟩
     rw [de] at hs
     refine ⟨_,rfl,aW,fun t nt=>?_⟩
     have s9:=ad (o:=.tup [.str "mark",va,v]) nt
     have e9:(aI Ha t (.tup [.str "mark",va,v])) t=some (.tup [.str "mark",va,v]):=ac
     generalize aI Ha t (.tup [V.str "mark",va,v])=H9 at *
     have b79:K8 p H8 H9:=ba.same s9
     have I9:=I8.but pls (ga.same s9) b79
     have k79:K5 H8 H9:=dM I8.g b79
     refine ⟨ls,_,_,rfl,rfl,b79 _ _ els pls.symm,?_,?_⟩
     ·have:=Ja.length
      lia
     exact fin H9 _ _ _ (.mk bb nn e') I9 us ss (b79 _ _ els pls.symm) (bS (R:=fun v g=>Ll H8 g v) (fun _ _ h'=>Ll.kt k79 h') Ja) hsl hsc hso ⟨t,va,v,rfl,e9,hva.kt (al s9),hv8.kt k79⟩ ⟨hs,he8⟩ (fun h=>by cases h)
    ·rintro H8 ⟨ls',many',i',⟨r',v',e',eσ,I8,hv8,he8⟩,nl',pls',hi4⟩
     have ei:(i:Int)=(i':Int):=by
      have:=congrArg (fun l:List (Option V)=>l[6]?) eσ
      simpa using this
     have ei':i=i':=by lia
     subst ei'
     cases eσ
     obtain ⟨us,ss,els,Ja,hsl,hsc,hso⟩:=I8.x
     have L8:=hL.but I8.g I8.b
     refine ⟨_,rfl,.inl ⟨rfl,_,KW.of els⟩,?_⟩
     refine ⟨_,rfl,_,rfl,_,rfl,p,"place",d,lf,W,ps,ms,fs,rfl,L8.g,L8.t,L8.f,L8.f3,.inl rfl,by rw [cP];exact L8.p1,by rw [cP];exact L8.p10,fun va Ha bb nn ga ba hva hs=>?_⟩
     rw [cP] at hs
     refine ⟨_,rfl,aW,fun t nt=>?_⟩
     have s9:=ad (o:=.tup [.str "place",va,v]) nt
     have e9:(aI Ha t (.tup [.str "place",va,v])) t=some (.tup [.str "place",va,v]):=ac
     generalize aI Ha t (.tup [V.str "place",va,v])=H9 at *
     have b79:K8 p H8 H9:=ba.same s9
     have I9:=I8.but pls (ga.same s9) b79
     have k79:K5 H8 H9:=dM I8.g b79
     refine ⟨ls,_,_,rfl,rfl,b79 _ _ els pls.symm,?_,?_⟩
     ·have:=Ja.length
      lia
     exact fin H9 _ _ _ (.pl bb nn e') I9 us ss (b79 _ _ els pls.symm) (bS (R:=fun v g=>Ll H8 g v) (fun _ _ h'=>Ll.kt k79 h') Ja) hsl hsc hso ⟨t,va,v,rfl,e9,hva.kt (al s9),hv8.kt k79⟩ ⟨hs,he8⟩ (fun h=>by cases h)
    ·refine ⟨_,rfl,rfl,_,rfl,bU (fun h=>?_) (fun h=>ck ⟨ls,many,i,⟨r,v,e',rfl,I7,hv7,he7⟩,nl,pls,hi4⟩)⟩
     have L7:=hL.but I7.g I7.b
     obtain ⟨kvs,lp,lm,a1,a2,a3,a4,a5,a6⟩:=L7.t
     refine ⟨_,rfl,d,_,rfl,cj a1 a4,aW,fun le nle=>?_⟩
     have s8:=ad (o:=.lst []) nle
     have e8:(aI H7 le (.lst [])) le=some (.lst []):=ac
     generalize aI H7 le (.lst ([]:List V))=H8 at *
     have I8:=I7.but pls (I7.g.same s8) (dB s8)
     have hJ:∃ ls' many' i',JS H p d lf ls' W ps ms fs k many' (k - 1) i' [some (.ref p),some (.ref d),some (.ref lf),some (.int k),some (.int many),some (.ref ls),some (.int (i:Nat)),some (.int r),some v] H8/\H ls'=none/\p≠ls'/\i' < 4:=⟨ls,many,i,⟨r,v,e',rfl,I8,hv7.kt (al s8),he7⟩,nl,pls,hi4⟩
     refine oU (fun z hz=>(L7.mn z hz).1) (s8 _ _ a6) e8 ⟨_,rfl,bU (fun h=>⟨hJ,?_⟩) (fun h=>hJ)⟩
     intro em
     rw [em] at h
     simp at h
   ·have hi4:i < 4:=by lia
    refine ⟨_,rfl,rfl,_,rfl,bU (fun h=>?_) (fun h=>ck ⟨ls,many,i,⟨r,v,e,rfl,I6,hv,he⟩,nl,pls,hi4⟩)⟩
    obtain ⟨us,ss,els,Ja,hsl,hsc,hso⟩:=id I6.x
    have lus:=Ja.length
    refine ⟨_,rfl,ls,rfl,⟨_,KW.of els⟩,?_⟩
    refine iN (K:=K) (a:=ls) (xs:=us) (fun j ys H'=>KO H6 H'/\ys.length<=j/\Paired (fun v g=>Ll H6 g v) ys ((ss.take j).filter Sd.isCell)) ⟨KO.refl _,GE _,.nil⟩ (fun j ys H' hj ⟨s',l',_⟩=>⟨KW.of (s' _ _ els),by lia⟩) ?_ ?_
    ·rintro j x ys H7 hx ⟨s7,l7,hp7⟩
     obtain ⟨g,hg,hgv⟩:=gr Ja hx
     have Je:=(GA.mp hx).1
     obtain ⟨pg,rg,rfl,hpg⟩:=hgv.at
     refine ⟨trivial,?_⟩
     refine ⟨_,rfl,pg,_,_,_,rfl,rfl,KP.of (s7 _ _ hpg),aT,rfl,_,rfl,?_⟩
     rw [xN]
     refine bU (fun h=>?_) (fun h=>?_)
     ·refine ⟨_,rfl,Nx.mk Je ⟨s7,by rw [Gy];simp;lia,?_⟩⟩
      rw [GX,hg,Ix]
      have:(some g).toList.filter Sd.isCell=[g]:=by simp [h]
      rw [this]
      exact gq (R:=fun v g=>Ll H6 g v) hgv hp7
     ·refine Nx.mk Je ⟨s7,by lia,?_⟩
      rw [GX,hg,Ix]
      have:(some g).toList.filter Sd.isCell=[]:=by simp [h]
      rw [this,Hw]
      exact hp7
    ·rintro ys H7 ⟨s7,l7,hp7⟩ lq nlq
     rw [show us.length=ss.length by lia,GV] at hp7
     generalize zz:aI H7 lq _=H8
     have s8:KO H7 H8:=zz ▸ ad nlq
     have e8:H8 lq=some (.lst ys):=zz ▸ ac
     clear zz
     refine ⟨aW,fun le nle=>?_⟩
     have s9:=ad (o:=.lst []) nle
     have e9:(aI H8 le (.lst [])) le=some (.lst []):=ac
     generalize aI H8 le (.lst ([]:List V))=H9 at *
     have s69:=(s7.trans s8).trans s9
     have I9:=I6.but pls (I6.g.same s69) (dB s69)
     have hv9:=hv.kt (al s69)
     refine zU (s9 _ _ e8) (sr (W:=W) (m:=k - 1) (ps:=ps) (ms:=ms) (fs:=fs) (bS (R:=fun v g=>Ll H6 g v) (fun _ _ h'=>Ll.kt (al s69) h') hp7) fun g hg=>hso g (Ih.mp hg).1) e9 ⟨_,rfl,bU (fun h=>?_) (fun h=>?_)⟩
     ·have h0:ys.length=0:=of_decide_eq_true h
      have:ss.filter Sd.isCell=[]:=List.eq_nil_of_length_eq_zero (by rw [<-hp7.length];exact h0)
      exact ⟨ls,many,i,⟨r,v,e,rfl,I9,hv9,he⟩,nl,pls,hi4,us,ss,s69 _ _ els,bS (R:=fun v g=>Ll H6 g v) (fun _ _ h'=>Ll.kt (al s69) h') Ja,hsl,this,hso⟩
     ·exact ⟨ls,many,i,⟨r,v,e,rfl,I9,hv9,he⟩,nl,pls,hi4⟩
  ·rintro σ H4 ⟨v6,v7,v8,rfl,I4⟩
   obtain ⟨us,ss,els,Ja,hsl,hsc,hso⟩:=I4.x
   refine ⟨_,rfl,ls,_,rfl,.inl ⟨KW.of els,fun t nt=>?_⟩⟩
   have s5:=ad (o:=.tup us) nt
   exact q t us ss _ (I4.g.same s5) (I4.b.same s5) ac (bS (R:=fun v g=>Ll H4 g v) (fun _ _ h'=>Ll.kt (al s5) h') Ja) (by lia) hsc hso
def lZ (fs:List (Str×Str)):Ee->Prop
 | .w0 s=>s∈(["next","back","stop"]:List Str)
 | .fault z=>cz z
 | .go s j=>s∈(["go","call"]:List Str)/\∃ z:Str,fs[j]?=some (z,("row":Str))
def zW (ps ms:List Str) (fs:List (Str×Str)):Tt->Prop
 | .top b n=>cw ps "place" fs b n
 | .pl b n=>cw ps "place" fs b n
 | .mk b n=>cw ms "mark" fs b n
def eG (W:Nat) (ps ms:List Str) (fs:List (Str×Str)) (m:Nat):Nat->Dd->Prop
 | _,.leaf s e=>s.length<=4/\(s.filter Sd.isCell).length<=1/\(∀ g∈s,eE W ps ms fs m g)/\lZ fs e
 | 0,.ite _ _ _=>False
 | c+1,.ite t y n=>zW ps ms fs t/\eG W ps ms fs m c y/\eG W ps ms fs m c n
inductive JR (p:Addr) (d:Addr) (lf:Addr) (fs:List (Str×Str)) (H:Hp) (r:Nat) (σ:St) (H':Hp):Prop
 | mk (lb:_):σ=[some (.ref p),some (.ref d),some (.ref lf),some (.ref lb),some (.int r)]->K3 H' p->K8 p H H'->p≠lb->H' lb=some (.lst (dw (cD "row" fs fs.length)))->JR p d lf fs H r σ H'
inductive su (vs:List V) (H:Hp) (Q:VK) (Z3:XK):Prop
 | mk (p d lf W ps ms fs:_):vs=[.ref p,.ref d,.ref lf]->Lx H p d lf W ps ms fs->(∀ v H' e,K3 H' p->K8 p H H'->Nr H' e v->lZ fs e->Q v H')->su vs H Q Z3
theorem Eu (r:Nat):∃ z:Str,nG ([V.str "go",.str "go",.str "call"]:List V) ((r:Int) % 3)=some (.str z)/\z∈(["go","call"]:List Str):=by
 have e:(r:Int) % 3=((r % 3:Nat):Int):=by lia
 rw [e]
 have h3:r % 3 < 3:=II _ (by decide)
 match r % 3,h3 with
 | 0,_=>exact ⟨"go",bf (j:=0) rfl,by decide +kernel⟩
 | 1,_=>exact ⟨"go",bf (j:=1) rfl,by decide +kernel⟩
 | 2,_=>exact ⟨"call",bf (j:=2) rfl,by decide +kernel⟩
def MD:List Str:=[("zq":Str),"deepest","barefoot","f"]
theorem vq (z:Str):cz z↔(z∉LH/\1<=z.length/\z.length<=8/\(z.cps.toList.all fun c=>decide (97<=c) && decide (c<=122))=true)/\z∉([("deep":Str),("bare":Str)]:List Str):=by
 unfold cz K4
 simp only [Ht,HU,decide_eq_true_eq]
theorem CM:∀ z∈MD,cz z:=by
 intro z hz
 rw [vq]
 revert z
 decide +kernel
theorem MN:ay ["_law_stream_here","_law_table_here","_law_fields","_law_rows","_law_way"] ["_law_stream_here","_law_table_here","_law_fields"] (aj tj):=cH (by decide +kernel)
theorem zX (F:K7 K "_law_end" "_law_end" tj f fd) (B:Bl mg) (B3:zF mg) (TK':Fn P w K mg base "_law_take" 1 ["_law_stream_here","_law_many"] eB):KU P w K mg base bY 2 f fd ["_law_stream_here","_law_table_here","_law_fields"] su:=by
 have ZZ:=MN
 walk_at "o"
 ·obtain ⟨p,d,lf,W,ps,ms,fs,rfl,hL,q⟩:=h
  have hu:=dP hr
  have sz:(100000:Nat)<=sizeLine:=by decide
  have h3:=hL.f3
  refine ⟨_,ae (kR (i:=3) MN.nd rfl rfl (N':=["_law_j","_law_name","_law_sort"]) (ix:=[none,none,none]) (sc0:=aj tj) (N:=["_law_stream_here","_law_table_here","_law_fields","_law_rows","_law_way"]) rfl (by decide +kernel) (LO rfl B3.enumerate (aa (pv 2) ab))
     (fun C' cl s H fp=>dR (K:=K) (n:=2) rfl rfl (aA (az (i:=0) vo rfl (Or.inl rfl) (.inr rfl)) (aA (dR (K:=K) (n:=2) rfl rfl (aA (az (i:=1) vo rfl (Or.inl rfl) (.inr rfl)) (aA (az (i:=2) vo rfl (Or.inl rfl) (.inr rfl)) bi))) bi))) (fun _ _ _ _ _=>jr (ak be (pv 2) af (av _))) (fun C' cl s H fp=>pv 0))
   (bz (fun σ H'=>∃ r:Nat,JR p d lf fs H r σ H') (ap (i:=4) MN.nd rfl (Or.inl rfl) (am TK' hr rfl (aa (pv 0) (aa ag ab))))
   (ae (aM (c6 (fun σ H'=>∃ r:Nat,JR p d lf fs H r σ H'/\cD "row" fs fs.length≠[]) (fun σ H'=>∃ r:Nat,JR p d lf fs H r σ H') (PW.pt (bZ (ak (Lm hr) (pv 3) (aB ab) (av _)) (bJ (ak dD (pv 4) ag (av _))))))
     (ah (ao (aC (aa (aq aL (aB (aa af (aa af (aa af ab)))) (ar eU (pv 4) ag) (fun _ _=>rfl)) (aa (aq aL (pv 3) (am TK' hr rfl (aa (pv 0) (aa (aQ bj (by rfl) B.len Hf (aa (pv 3) ab)) ab))) (fun _ _=>rfl)) ab))))) aH)
   (ae (aM (ak be (pv 4) ag (av _)) (ah (ao (aC (aa af ab)))) aH)
   (ae (aM (c6 (fun σ H'=>∃ r:Nat,JR p d lf fs H r σ H') (fun σ H'=>∃ r:Nat,JR p d lf fs H r σ H') (PW.pt (bZ (ak be (pv 4) ag (av _)) (bJ (ak be (am TK' hr rfl (aa (pv 0) (aa ag ab))) ag (av _)))))) (ah (ao (aC (aa af ab)))) aH)
   (ae (aM (c6 (fun σ H'=>∃ r:Nat,JR p d lf fs H r σ H') (fun σ H'=>∃ r:Nat,JR p d lf fs H r σ H') (PW.pt (bZ (ak be (pv 4) ag (av _)) (bJ (ak be (am TK' hr rfl (aa (pv 0) (aa ag ab))) ag (av _))))))
     (ah (ao (aC (aa af (aa (aq aL (ar aR (ar aR (aB (aa af (aa af (aa af (aa af ab))))) (bD hu (pv 1) af (fun _ _=>rfl))) (bD hu (pv 1) af (fun _ _=>rfl))) (am TK' hr rfl (aa (pv 0) (aa ag ab))) (fun _ _=>rfl)) ab))))) aH)
   (ah (ao (aC (aa af ab))))))))),?_⟩
  obtain ⟨us,hlf,Ja⟩:=id hL.f
  have lu:=Ja.length
  refine ⟨_,rfl,lf,rfl,⟨_,KW.of hlf⟩,?_⟩
  refine kr (K:=K) (l:=lf) (xs:=us) (fun i ys H'=>KO H H'/\ys=dw (cD "row" fs i)) ⟨KO.refl _,rfl⟩ (fun i ys H' hi ⟨s',e'⟩=>⟨KW.of (s' _ _ hlf),by rw [e',fj];have:=gS "row" fs i;lia⟩) ?_ ?_
  ·rintro i x ys H1 T1 hx nT ⟨s1,rfl⟩
   obtain ⟨z,hz,pf,rfl,hpf⟩:=gr Ja hx
   have s2:=ad (o:=.tup [.int (i:Int),.ref pf]) nT
   have Jd:=s1.trans s2
   have Je:=(GA.mp hx).1
   refine ⟨T1,_,rfl,KP.of ac,rfl,_,_,rfl,_,_,rfl,⟨pf,_,rfl,KP.of (Jd _ _ hpf),rfl,_,_,rfl,_,_,rfl,rfl,rfl,trivial,?_⟩⟩
   refine ⟨_,rfl,rfl,_,rfl,bU (fun h=>?_) (fun h=>?_)⟩
   ·have h':z.2="row":=V.str.inj (of_decide_eq_true h)
    refine ⟨_,rfl,Nx.mk Je ⟨Jd,?_⟩⟩
    rw [ef hz,if_pos h']
    unfold dw
    rw [GK]
    rfl
   ·have h':¬ z.2="row":=fun e=>h (decide_eq_true (by rw [e]))
    refine Nx.mk Je ⟨Jd,?_⟩
    rw [ef hz,if_neg h',Hw]
  ·rintro ys H1 ⟨s1,rfl⟩ lb nlb
   rw [lu]
   have hil:=gS "row" fs fs.length
   have s2:=ad (o:=.lst (dw (cD "row" fs fs.length))) nlb
   have e2:(aI H1 lb (.lst (dw (cD "row" fs fs.length)))) lb=some (.lst (dw (cD "row" fs fs.length))):=ac
   have plb:p≠lb:=(hL.g.same s1).ne nlb
   generalize aI H1 lb (.lst (dw (cD "row" fs fs.length)))=H2 at *
   have s02:=s1.trans s2
   have w0:∀ (z:Str) H5,z∈(["next","back","stop"]:List Str)->K3 H5 p->K8 p H H5->1<=sizeLine/\∀ t,H5 t=none->Q (.ref t) (aI H5 t (.tup [.str z])):=fun z H5 hz g5 b5=>⟨by decide,fun t nt=>by
    have s6:=ad (o:=.tup [.str z]) nt
    exact q _ _ (.w0 z) (g5.same s6) (b5.same s6) ⟨t,rfl,ac⟩ hz⟩
   refine ⟨?_,?_⟩
   ·rintro σ H4 ⟨r,lb,rfl,g4,b4,plb,e4⟩
    refine ⟨?_,?_,?_⟩
    ·rintro H5 ⟨r',⟨lb',e,g5,b5,plb',e5⟩,Jb⟩
     have er:(r:Int)=(r':Int):=by
      have:=congrArg (fun l:List (Option V)=>l[4]?) e
      simpa using this
     have er':r=r':=by lia
     subst er'
     cases e
     have hpos:0 < (cD "row" fs fs.length).length:=HR.mpr Jb
     obtain ⟨z,hz1,hz2⟩:=Eu r
     refine ⟨aW,fun lg ng=>?_⟩
     have s6:=ad (o:=.lst [.str "go",.str "go",.str "call"]) ng
     have e6:(aI H5 lg (.lst [.str "go",.str "go",.str "call"])) lg=some (.lst [.str "go",.str "go",.str "call"]):=ac
     generalize aI H5 lg (.lst [V.str "go",.str "go",.str "call"])=H6 at *
     refine ⟨_,rfl,_,_,rfl,rfl,(by show (0:Int) < 3;decide),lg,_,_,_,rfl,rfl,KW.of e6,hz1,?_⟩
     refine ⟨_,rfl,_,rfl,_,rfl,lb,_,rfl,.inl (KW.of (s6 _ _ e5)),?_⟩
     rw [fj]
     refine ⟨p,(cD "row" fs fs.length).length,rfl,g5.same s6,hpos,by lia,fun j H7 hj g7 b7=>?_⟩
     obtain ⟨zz,hzz⟩:=lX (Hv hj)
     refine ⟨lb,_,_,_,rfl,rfl,KW.of (b7 _ _ (s6 _ _ e5) plb.symm),bf (oS hj),aW,fun t nt=>?_⟩
     have s8:=ad (o:=.tup [.str z,.int ((cD "row" fs fs.length)[j]:Nat)]) nt
     exact q _ _ (.go z (cD "row" fs fs.length)[j]) (g7.same s8) (((b5.same s6).trans b7).same s8) ⟨t,rfl,ac⟩ ⟨hz2,zz,hzz⟩
    ·rintro H5 ⟨r',lb',e,g5,b5,plb',e5⟩
     cases e
     refine ⟨_,rfl,rfl,_,rfl,bU (fun h=>w0 "back" H5 (by decide +kernel) g5 b5) (fun h=>?_)⟩
     refine ⟨?_,?_,?_⟩
     ·rintro H6 ⟨r',lb',e,g6,b6,plb',e6⟩
      exact w0 "stop" H6 (by decide +kernel) g6 b6
     ·rintro H6 ⟨r',lb',e,g6,b6,plb',e6⟩
      cases e
      refine ⟨?_,?_,?_⟩
      ·rintro H7 ⟨r',lb',e,g7,b7,plb',e7⟩
       cases e
       have L7:=hL.but g7 b7
       obtain ⟨kvs,lp,lm,a1,a2,a3,a4,a5,a6⟩:=L7.t
       have p10:=L7.p10
       have p1:=L7.p1
       have m10:=L7.m10
       refine ⟨aW,fun l8 n8=>?_⟩
       have s8:=ad (o:=.lst [.str "zq",.str "deepest",.str "barefoot",.str "f"]) n8
       have e8:(aI H7 l8 (.lst [.str "zq",.str "deepest",.str "barefoot",.str "f"])) l8=some (.lst (ai MD)):=ac
       generalize aI H7 l8 (.lst [V.str "zq",.str "deepest",.str "barefoot",.str "f"])=H8 at *
       have hfl:MD.length=4:=rfl
       refine ⟨_,rfl,d,_,rfl,cj (s8 _ _ a1) a3,cy e8 (s8 _ _ a5) (by lia) fun l9 H9 s9 n9 e9=>?_⟩
       refine ⟨_,rfl,d,_,rfl,cj ((s8.trans s9) _ _ a1) a4,cy e9 ((s8.trans s9) _ _ a6) (by rw [Gy];lia) fun la Ha sa na ea=>?_⟩
       have s7a:=(s8.trans s9).trans sa
       have pla:p≠la:=(g7.same (s8.trans s9)).ne na
       refine ⟨_,rfl,p,5,rfl,g7.same s7a,by decide,by decide,fun j Hb hj gb bb=>?_⟩
       have hjl:j < (MD++ps++ms).length:=by rw [Gy,Gy];lia
       have hmem:cz (MD++ps++ms)[j]:=by
        have:=Hv hjl
        rcases GP.mp this with h|h
        ·rcases GP.mp h with h|h
         ·exact CM _ h
         ·exact L7.pn _ h
        ·exact L7.mn _ h
       refine ⟨la,_,_,_,rfl,rfl,KW.of (bb _ _ ea pla.symm),bf (v:=.str (MD++ps++ms)[j]) (by unfold ai;rw [GY,GJ hjl];rfl),aW,fun t nt=>?_⟩
       have sc:=ad (o:=.tup [.str "fault",.str (MD++ps++ms)[j]]) nt
       exact q _ _ (.fault (MD++ps++ms)[j]) (gb.same sc) (((b7.same s7a).trans bb).same sc) ⟨t,rfl,ac⟩ hmem
      ·rintro H7 ⟨r',lb',e,g7,b7,plb',e7⟩
       exact w0 "next" H7 (by decide +kernel) g7 b7
      ·refine ⟨_,rfl,rfl,_,rfl,bU (fun h=>?_) (fun h=>ck ⟨_,lb,rfl,g6,b6,plb,e6⟩)⟩
       refine ⟨_,rfl,p,3,rfl,g6,by decide,by decide,fun j H7 hj g7 b7=>?_⟩
       exact ⟨rfl,_,rfl,bU (fun h=>⟨_,lb,rfl,g7,b6.trans b7,plb,b7 _ _ e6 plb.symm⟩) (fun h=>⟨_,lb,rfl,g7,b6.trans b7,plb,b7 _ _ e6 plb.symm⟩)⟩
     ·refine ⟨_,rfl,rfl,_,rfl,bU (fun h=>?_) (fun h=>ck ⟨_,lb,rfl,g5,b5,plb,e5⟩)⟩
      refine ⟨_,rfl,p,3,rfl,g5,by decide,by decide,fun j H7 hj g7 b7=>?_⟩
      exact ⟨rfl,_,rfl,bU (fun h=>⟨_,lb,rfl,g7,b5.trans b7,plb,b7 _ _ e5 plb.symm⟩) (fun h=>⟨_,lb,rfl,g7,b5.trans b7,plb,b7 _ _ e5 plb.symm⟩)⟩
    ·refine ⟨_,rfl,aW,fun le nle=>?_⟩
     have s6:=ad (o:=.lst []) nle
     have e6:(aI H4 le (.lst [])) le=some (.lst []):=ac
     generalize aI H4 le (.lst ([]:List V))=H6 at *
     have hJ:JR p d lf fs H r [some (.ref p),some (.ref d),some (.ref lf),some (.ref lb),some (.int r)] H6:=⟨lb,rfl,g4.same s6,b4.same s6,plb,s6 _ _ e4⟩
     refine oT (s6 _ _ e4) e6 ⟨_,rfl,bU (fun h=>?_) (fun h=>ck ⟨r,hJ⟩)⟩
     refine ⟨_,rfl,_,_,rfl,rfl,_,rfl,bU (fun h'=>⟨r,hJ,?_⟩) (fun h'=>⟨r,hJ⟩)⟩
     intro e
     rw [e] at h
     simp at h
   ·refine ⟨_,rfl,p,10,rfl,hL.g.same s02,by decide,by decide,fun r H4 IU g4 b4=>?_⟩
    exact ⟨r,lb,rfl,g4,(dB s02).trans b4,plb,b4 _ _ e2 plb.symm⟩
inductive qz (mm:Nat) (c:Nat) (vs:List V) (H:Hp) (Q:VK):Prop
 | mk (p d lf W ps ms fs:_) (c' k:Nat):vs=[.ref p,.ref d,.ref lf,.int c',.int k]->Lx H p d lf W ps ms fs->2<=k->k<=mm->c'<=c->(∀ v H' dd,K3 H' p->K8 p H H'->Mz H' dd v->eG W ps ms fs (k - 1) c' dd->Q v H')->qz mm c vs H Q
def kA (mm:Nat):Nat->Sp
 | 0=>jX
 | c+1=>fun vs H Q _=>qz mm c vs H Q
theorem CO (r:Nat):∃ t:Bool,nG ([V.str "place",.str "top"]:List V) ((r:Int) % 2)=some (.str (if t then "top" else "place")):=by
 have e:(r:Int) % 2=((r % 2:Nat):Int):=by lia
 rw [e]
 have h3:r % 2 < 2:=II _ (by decide)
 match r % 2,h3 with
 | 0,_=>exact ⟨false,bf (j:=0) rfl⟩
 | 1,_=>exact ⟨true,bf (j:=1) rfl⟩
theorem LM:ay ["_law_stream_here","_law_table_here","_law_fields","_law_choices","_law_deep","_law_way","_law_test","_law_yes"] ["_law_stream_here","_law_table_here","_law_fields","_law_choices","_law_deep"] (aj rE):=cH (by decide +kernel)
inductive JD (p:Addr) (d:Addr) (lf:Addr) (ps:List Str) (ms:List Str) (fs:List (Str×Str)) (H:Hp) (c:Nat) (k:Nat) (σ:St) (H':Hp):Prop
 | mk (r:Nat) (t:Tt) (vt:V):σ=[some (.ref p),some (.ref d),some (.ref lf),some (.int c),some (.int k),some (.int r),some vt,none]->K3 H' p->K8 p H H'->No H' t vt->zW ps ms fs t->JD p d lf ps ms fs H c k σ H'
variable {c mm:Nat}
theorem jc (F:K7 K "_law_deed" "_law_deed" rE f fd) (TK':Fn P w K mg base "_law_take" 1 ["_law_stream_here","_law_many"] eB) (SL:Fn P w K mg base "_law_sel" 2 ["_law_stream_here","_law_sort","_law_table_here","_law_fields"] lY) (ST:Fn P w K mg base "_law_sets" n ["_law_stream_here","_law_table_here","_law_fields","_law_deep"] (oW mm)) (EN:Fn P w K mg base "_law_end" 2 ["_law_stream_here","_law_table_here","_law_fields"] su) (DE:Fn P w K mg base "_law_deed" n ["_law_stream_here","_law_table_here","_law_fields","_law_choices","_law_deep"] (kA mm c)) (hn:2<=n):KU P w K mg base bY (n+1) f fd ["_law_stream_here","_law_table_here","_law_fields","_law_choices","_law_deep"] (kA mm (c+1)):=by
 have ZZ:=LM
 walk_at "o"
 ·obtain ⟨p,d,lf,W,ps,ms,fs,c',k,rfl,hL,hk2,hkm,hc,q⟩:=h
  have hu:=dP hr
  have IS:KY 1 _:=hr.mono (by lia)
  have IU:KY 2 _:=hr.mono (by lia)
  refine ⟨_,ae (aM (c6 (fun _ H'=>K3 H' p/\K8 p H H'/\1<=c') (fun _ H'=>K3 H' p/\K8 p H H') (PW.pt (bZ (ak kJ (pv 3) ag (av _)) (bJ (ak be (am TK' IS rfl (aa (pv 0) (aa ag ab))) ag (av _))))))
    (ae (ap (i:=5) LM.nd rfl (Or.inl rfl) (am TK' IS rfl (aa (pv 0) (aa ag ab))))
    (bz (JD p d lf ps ms fs H c' k) (ap (i:=6) LM.nd rfl (Or.inl rfl) (aC (aa (aq aL (aB (aa af (aa af ab))) (ar eU (pv 5) ag) (fun _ _=>rfl)) (aa (am SL IU rfl (aa (pv 0) (aa af (aa (pv 1) (aa (pv 2) ab))))) ab))))
    (bz (JD p d lf ps ms fs H c' k) (aM (c6 (fun σ H'=>JD p d lf ps ms fs H c' k σ H'/\ms≠[]) (JD p d lf ps ms fs H c' k) (PW.pt (bZ (ak be (pv 5) ag (av _)) (bJ (ak (Lm hr) (bD hu (pv 1) af (fun _ _=>rfl)) (aB ab) (av _)))))) (ah (ap (i:=6) LM.nd rfl (Or.inl rfl) (aC (aa af (aa (am SL IU rfl (aa (pv 0) (aa af (aa (pv 1) (aa (pv 2) ab))))) ab))))) aH)
    (ae (ap (i:=7) LM.nd rfl (Or.inl rfl) (am DE hr rfl (aa (pv 0) (aa (pv 1) (aa (pv 2) (aa (ar eR (pv 3) ag) (aa (pv 4) ab)))))))
    (ah (ao (aC (aa af (aa (pv 6) (aa (pv 7) (aa (am DE hr rfl (aa (pv 0) (aa (pv 1) (aa (pv 2) (aa (ar eR (pv 3) ag) (aa (pv 4) ab)))))) ab))))))))))) aH)
   (ah (ao (aC (aa af (aa (am ST hr rfl (aa (pv 0) (aa (pv 1) (aa (pv 2) (aa (pv 4) ab))))) (aa (am EN IU rfl (aa (pv 0) (aa (pv 1) (aa (pv 2) ab)))) ab)))))),?_⟩
  refine ⟨?_,?_,?_⟩
  ·rintro H1 ⟨g1,b1,hc1⟩
   obtain ⟨c0,rfl⟩:∃ c0,c'=c0+1:=⟨c' - 1,by lia⟩
   have ec:((c0+1:Nat):Int) - 1=((c0:Nat):Int):=by lia
   cases c with
   | zero=>lia
   | succ c=>
    refine ⟨_,rfl,p,3,rfl,g1,by decide,by decide,fun r H2 hr3 g2 b2=>?_⟩
    have b02:=b1.trans b2
    refine ⟨?_,?_⟩
    ·rintro σ H3 ⟨r,t,vt,rfl,g3,b3,ht,hto⟩
     refine ⟨?_,?_⟩
     ·rintro σ H4 ⟨r,t,vt,rfl,g4,b4,ht4,hto4⟩
      have L4:=hL.but g4 b4
      refine ⟨_,rfl,_,rfl,_,rfl,_,rfl,_,_,rfl,rfl,_,rfl,?_⟩
      refine ⟨p,d,lf,W,ps,ms,fs,c0,k,congrArg (fun x=>[V.ref p,V.ref d,V.ref lf,V.int x,V.int k]) ec,L4,hk2,hkm,by lia,fun vy H5 dy g5 b5 hy hyo=>?_⟩
      have L5:=L4.but g5 b5
      refine ⟨_,rfl,_,rfl,_,rfl,_,rfl,_,rfl,_,rfl,_,_,rfl,rfl,_,rfl,?_⟩
      refine ⟨p,d,lf,W,ps,ms,fs,c0,k,congrArg (fun x=>[V.ref p,V.ref d,V.ref lf,V.int x,V.int k]) ec,L5,hk2,hkm,by lia,fun vn H6 dn g6 b6 hn6 hno=>⟨aW,fun tt nt=>?_⟩⟩
      have s7:=ad (o:=.tup [.str "if",vt,vy,vn]) nt
      have k46:K5 H4 H6:=dM g4 (b5.trans b6)
      refine q _ _ (.ite t dy dn) (g6.same s7) (((b4.trans b5).trans b6).same s7) ⟨tt,vt,vy,vn,rfl,ac,(ht4.kt k46).kt (al s7),(hy.kt (dM g5 b6)).kt (al s7),hn6.kt (al s7)⟩ ?_
      simp only [eG]
      exact ⟨hto4,hyo,hno⟩
     ·refine ⟨?_,?_,?_⟩
      ·rintro H4 ⟨⟨r',t',vt',e,g4,b4,ht4,hto4⟩,Jb⟩
       cases e
       have L4:=hL.but g4 b4
       have hm1:1<=ms.length:=HR.mpr Jb
       refine ⟨_,rfl,_,rfl,_,rfl,p,"mark",d,lf,W,ps,ms,fs,rfl,L4.g,L4.t,L4.f,L4.f3,.inr rfl,by rw [de];exact hm1,by rw [de];exact L4.m10,fun va Ha bb nn ga ba hva hs=>⟨aW,fun tt nt=>?_⟩⟩
       rw [de] at hs
       have s5:=ad (o:=.tup [.str "mark",va]) nt
       exact ⟨r,.mk bb nn,.ref tt,rfl,ga.same s5,(b4.trans ba).same s5,⟨tt,va,rfl,ac,hva.kt (al s5)⟩,hs⟩
      ·rintro H4 ⟨r',t',vt',e,g4,b4,ht4,hto4⟩
       cases e
       exact ⟨r,t',vt,rfl,g4,b4,ht4,hto4⟩
      ·refine ⟨_,rfl,rfl,_,rfl,bU (fun h=>?_) (fun h=>ck ⟨r,t,vt,rfl,g3,b3,ht,hto⟩)⟩
       have L3':=hL.but g3 b3
       obtain ⟨kvs,lp,lm,a1,a2,a3,a4,a5,a6⟩:=L3'.t
       refine ⟨_,rfl,d,_,rfl,cj a1 a4,aW,fun le nle=>?_⟩
       have s8:=ad (o:=.lst []) nle
       have e8:(aI H3 le (.lst [])) le=some (.lst []):=ac
       generalize aI H3 le (.lst ([]:List V))=H8 at *
       have hJ:JD p d lf ps ms fs H (c0+1) k [some (.ref p),some (.ref d),some (.ref lf),some (.int (c0+1:Nat)),some (.int k),some (.int r),some vt,none] H8:=⟨r,t,vt,rfl,g3.same s8,b3.same s8,ht.kt (al s8),hto⟩
       refine oU (fun z hz=>(L3'.mn z hz).1) (s8 _ _ a6) e8 ⟨_,rfl,bU (fun h=>⟨hJ,?_⟩) (fun h=>hJ)⟩
       intro em
       rw [em] at h
       simp at h
    ·refine ⟨aW,fun lg ng=>?_⟩
     have s3:=ad (o:=.lst [.str "place",.str "top"]) ng
     have e3:(aI H2 lg (.lst [.str "place",.str "top"])) lg=some (.lst [.str "place",.str "top"]):=ac
     generalize aI H2 lg (.lst [V.str "place",.str "top"])=H3 at *
     obtain ⟨tb,htb⟩:=CO r
     refine ⟨_,rfl,_,_,rfl,rfl,(by show (0:Int) < 2;decide),lg,_,_,_,rfl,rfl,KW.of e3,htb,?_⟩
     have L3':=hL.but (g2.same s3) (b02.same s3)
     refine ⟨_,rfl,_,rfl,_,rfl,p,"place",d,lf,W,ps,ms,fs,rfl,L3'.g,L3'.t,L3'.f,L3'.f3,.inl rfl,by rw [cP];exact L3'.p1,by rw [cP];exact L3'.p10,fun va Ha bb nn ga ba hva hs=>⟨aW,fun tt nt=>?_⟩⟩
     rw [cP] at hs
     cases tb with
     | true=>
      have s5:=ad (o:=.tup [.str "top",va]) nt
      exact ⟨r,.top bb nn,.ref tt,rfl,ga.same s5,((b02.same s3).trans ba).same s5,⟨tt,va,rfl,ac,hva.kt (al s5)⟩,hs⟩
     | false=>
      have s5:=ad (o:=.tup [.str "place",va]) nt
      exact ⟨r,.pl bb nn,.ref tt,rfl,ga.same s5,((b02.same s3).trans ba).same s5,⟨tt,va,rfl,ac,hva.kt (al s5)⟩,hs⟩
  ·rintro H1 ⟨g1,b1⟩
   have L1:=hL.but g1 b1
   refine ⟨_,rfl,_,rfl,_,rfl,_,rfl,p,d,lf,W,ps,ms,fs,k,rfl,L1,hk2,hkm,fun ts us ss H2 g2 b2 e2 hp2 h4 hcc hso=>?_⟩
   have L2':=L1.but g2 b2
   refine ⟨_,rfl,_,rfl,_,rfl,p,d,lf,W,ps,ms,fs,rfl,L2',fun ve H3 e g3 b3 hv3 he3=>⟨aW,fun tt nt=>?_⟩⟩
   have s4:=ad (o:=.tup [.str "leaf",.ref ts,ve]) nt
   have k23:K5 H2 H3:=dM g2 b3
   refine q _ _ (.leaf ss e) (g3.same s4) (((b1.trans b2).trans b3).same s4) ⟨tt,ts,us,ve,rfl,ac,s4 _ _ (k23 _ _ e2),bS (R:=fun v g=>Ll H2 g v) (fun _ _ h'=>Ll.kt (al s4) (Ll.kt k23 h')) hp2,hv3.kt (al s4)⟩ ?_
   cases c'<;>exact ⟨h4,hcc,hso,he3⟩
  ·refine ⟨_,rfl,_,_,rfl,rfl,_,rfl,bU (fun h=>?_) (fun h=>ck ⟨hL.g,K8.refl _ _⟩)⟩
   have hc1:1<=c':=by
    have:=of_decide_eq_true h
    lia
   refine ⟨_,rfl,p,3,rfl,hL.g,by decide,by decide,fun r H4 hr3 g4 b4=>?_⟩
   exact ⟨rfl,_,rfl,bU (fun h=>⟨g4,b4,hc1⟩) (fun h=>⟨g4,b4⟩)⟩
def xQ (fs:List (Str×Str)) (j:Nat):Str:=(fs.getD j ("","")).1
def eI (L:List Str) (fs:List (Str×Str)) (b:Bool) (n:Nat):Str:=if b=true then xQ fs n else L.getD n ""
def df (ps ms:List Str) (fs:List (Str×Str)):Ed->Ex
 | .num n=>.num n
 | .fld j=>.nm (xQ fs j)
 | .pl b n=>.nm (eI ps fs b n)
 | .mk b n=>.nm (eI ms fs b n)
 | .cell e=>.cell (df ps ms fs e)
 | .two o x y=>.two o (df ps ms fs x) (df ps ms fs y)
def c9 (ps ms:List Str) (fs:List (Str×Str)):Sd->Gs
 | .cell a e=>.cell (df ps ms fs a) (df ps ms fs e)
 | .pl b n e=>.nm (eI ps fs b n) (df ps ms fs e)
 | .mk b n e=>.nm (eI ms fs b n) (df ps ms fs e)
def fQ (fs:List (Str×Str)):Ee->En
 | .w0 s=>.w0 s
 | .fault z=>.w1 "fault" z
 | .go s j=>.w1 s (xQ fs j)
def pz (ps ms:List Str) (fs:List (Str×Str)):Tt->Str
 | .top b n=>eI ps fs b n
 | .pl b n=>eI ps fs b n
 | .mk b n=>eI ms fs b n
def sw:Tt->Bool
 | .top _ _=>true
 | _=>false
def jd (ps ms:List Str) (fs:List (Str×Str)):Dd->Bd
 | .leaf s e=>.leaf (s.map (c9 ps ms fs)) (fQ fs e)
 | .ite t y n=>.ite (sw t) (pz ps ms fs t) (jd ps ms fs y) (jd ps ms fs n)
def gV:Option Nat->V
 | none=>.non
 | some g=>.int (g:Nat)
def gL (ms:List Str):Option Nat->List Str
 | none=>[]
 | some g=>[ms.getD g ""]
inductive Nq (lk:Addr) (H:Hp) (u:V) (x:Kn):Prop
 | mk (t lf b:_):u=.ref t->lf≠lk->H t=some (.tup [.str x.name,.ref lf,b])->MV H lf x.fs->Mz H x.dd b->Nq lk H u x
structure KL (W:Nat) (ps ms fn:List Str) (c k:Nat) (x:Kn):Prop where
 fn:∃ j,j<=3/\x.fs.map (·.1)=fn.take j
 st:∀ f∈x.fs,f.2∈dv
 dd:eG W ps ms x.fs (k - 1) c x.dd
 bd:x.bd=jd ps ms x.fs x.dd
def sx (n c k:Nat):Prop:=(1<=n/\n<=8/\c=0/\k=2)\/(n=1/\c=3/\k=2)\/(1<=n/\n<=5/\c=0/\k=4)\/(1<=n/\n<=3/\c=1/\2<=k/\k<=3)
structure jV (D:Fm) (fn:List Str) (gt:Option Nat):Prop where
 w4:4<=D.width
 w24:D.width<=24
 c4:4<=D.cells
 c64:D.cells<=64
 d8:D.depth<=8
 p1:1<=D.places.length
 p4:D.places.length<=4
 m3:D.marks.length<=3
 fl:fn.length=3
 nd:(D.places++D.marks++fn).Nodup
 nf:∀ z∈D.places++D.marks++fn,cz z
 kn:(D.kinds.map Kn.name).Nodup
 kf:∀ x∈D.kinds,cz x.name
 ga:D.gates=gL D.marks gt
 gb:∀ g,gt=some g->g < D.marks.length
 kl:∃ c k,sx D.kinds.length c k/\∀ x∈D.kinds,KL D.width D.places D.marks fn c k x
structure Np (H:Hp) (d:Addr) (D:Fm) (gt:Option Nat) (kvs:List (cE×V)) (lp lm lk:Addr) (us:List V):Prop where
 ed:H d=some (.dK kvs)
 v1:bh kvs (kS "width")=some (.int D.width)
 v2:bh kvs (kS "cells")=some (.int D.cells)
 v3:bh kvs (kS "depth")=some (.int D.depth)
 v4:bh kvs (kS "places")=some (.ref lp)
 v5:bh kvs (kS "marks")=some (.ref lm)
 v6:bh kvs (kS "gate")=some (gV gt)
 v7:bh kvs (kS "kinds")=some (.ref lk)
 ep:H lp=some (.lst (ai D.places))
 em:H lm=some (.lst (ai D.marks))
 ek:H lk=some (.lst us)
 ks:Paired (Nq lk H) us D.kinds
inductive l0 (vs:List V) (H:Hp) (Q:VK) (Z3:XK):Prop
 | mk (p:Addr) (most:Nat):vs=[.ref p,.int most]->K3 H p->1<=most->most<=3->(∀ d H' D gt kvs lp lm lk us fn,K3 H' p->K8 p H H'->Np H' d D gt kvs lp lm lk us->jV D fn gt->Q (.ref d) H')->l0 vs H Q Z3
structure TN (H:Hp) (p d IY ln:Addr) (A b:Nat) (zs:List Str) (kv:List (cE×V)) (H':Hp):Prop where
 g:K3 H' p
 bb:K8 p H H'
 nd:H d=none
 pd:p≠d
 ed:H' d=some (.dK kv)
 emn:H' IY=some (.lst [.int (A:Nat),.int (b:Nat)])
 eln:H' ln=some (.lst (ai zs))
variable {kv:List (cE×V)} {zs:List Str} {IY ln:Addr}
theorem TN.but {A b:Nat} (h:TN H p d IY ln A b zs kv H1) (g:K3 H2 p) (b':K8 p H1 H2):TN H p d IY ln A b zs kv H2:=
 ⟨g,h.bb.trans b',h.nd,h.pd,b' _ _ h.ed h.pd.symm,b' _ _ h.emn (bG h.g h.emn fun x y z e=>by have:=congrArg List.length (HO.lst.inj e);simp [oe] at this),b' _ _ h.eln (bG h.g h.eln (cu _))⟩
theorem TN.same {A b:Nat} (h:TN H p d IY ln A b zs kv H1) (s:KO H1 H2):TN H p d IY ln A b zs kv H2:=h.but (h.g.same s) (dB s)
variable {x:Addr}
theorem sy {l:List V} {k:List (cE×V)} (h:H x=some (.lst l)) (h':H d=some (.dK k)):x≠d:=by
 rintro rfl
 rw [h] at h'
 cases h'
theorem TN.put {A b:Nat} (h:TN H p d IY ln A b zs kv H1) (kv':List (cE×V)):TN H p d IY ln A b zs kv' (aI H1 d (.dK kv')):=by
 have hk:∀ x l,H1 x=some (.lst l)->(aI H1 d (.dK kv')) x=some (.lst l):=fun x l e=>by rw [aw (sy e h.ed)];exact e
 refine ⟨?_,?_,h.nd,h.pd,ac,hk _ _ h.emn,hk _ _ h.eln⟩
 ·obtain ⟨x,y,z,e⟩:=h.g
  exact ⟨x,y,z,hk _ _ e⟩
 ·intro c o e n
  rw [aw (aK e h.nd)]
  exact h.bb c o e n
theorem dU {l:List V} {k kv':List (cE×V)} (h:H1 x=some (.lst l)) (h':H1 d=some (.dK k)):(aI H1 d (.dK kv')) x=some (.lst l):=by rw [aw (sy h h')];exact h
theorem Gu (va vb vc:V):∃ kv,ig [] [(kS "width",va),(kS "cells",vb),(kS "depth",vc)]=kv/\kv.length<=3/\bh kv (kS "width")=some va/\bh kv (kS "cells")=some vb/\bh kv (kS "depth")=some vc:=by
 refine ⟨_,rfl,eV _ _,?_,?_,?_⟩
 ·show bh (bu (bu (bu [] (kS "width") va) (kS "cells") vb) (kS "depth") vc) _=_
  rw [cm (by decide +kernel),cm (by decide +kernel),iC]
 ·show bh (bu (bu (bu [] (kS "width") va) (kS "cells") vb) (kS "depth") vc) _=_
  rw [cm (by decide +kernel),iC]
 ·show bh (bu (bu (bu [] (kS "width") va) (kS "cells") vb) (kS "depth") vc) _=_
  rw [iC]
structure TL (H:Hp) (p d IY ln lp lm lk:Addr) (A b W cl dp:Nat) (zs:List Str) (kv:List (cE×V)) (gt:Option Nat) (H':Hp):Prop where
 tn:TN H p d IY ln A b zs kv H'
 v1:bh kv (kS "width")=some (.int (W:Nat))
 v2:bh kv (kS "cells")=some (.int (cl:Nat))
 v3:bh kv (kS "depth")=some (.int (dp:Nat))
 v4:bh kv (kS "places")=some (.ref lp)
 v5:bh kv (kS "marks")=some (.ref lm)
 v6:bh kv (kS "gate")=some (gV gt)
 v7:bh kv (kS "kinds")=some (.ref lk)
 ep:H' lp=some (.lst (ai (zs.take A)))
 em:H' lm=some (.lst (ai ((zs.drop A).take b)))
 k1:IY≠lk
 k2:ln≠lk
 k3:lp≠lk
 k4:lm≠lk
 nk:H lk=none
 pk:p≠lk
variable {gt:Option Nat} {lp lm lk:Addr}
theorem TL.but {A b W cl dp:Nat} (h:TL H p d IY ln lp lm lk A b W cl dp zs kv gt H1) (g:K3 H2 p) (b':K8 p H1 H2):TL H p d IY ln lp lm lk A b W cl dp zs kv gt H2:=
 ⟨h.tn.but g b',h.v1,h.v2,h.v3,h.v4,h.v5,h.v6,h.v7,b' _ _ h.ep (bG h.tn.g h.ep (cu _)),b' _ _ h.em (bG h.tn.g h.em (cu _)),h.k1,h.k2,h.k3,h.k4,h.nk,h.pk⟩
theorem TL.same {A b W cl dp:Nat} (h:TL H p d IY ln lp lm lk A b W cl dp zs kv gt H1) (s:KO H1 H2):TL H p d IY ln lp lm lk A b W cl dp zs kv gt H2:=h.but (h.tn.g.same s) (dB s)
theorem TL.app {A b W cl dp:Nat} (h:TL H p d IY ln lp lm lk A b W cl dp zs kv gt H1) (e:H1 lk=some (.lst us)) (us':List V):TL H p d IY ln lp lm lk A b W cl dp zs kv gt (aI H1 lk (.lst us')):=by
 refine ⟨⟨?_,?_,h.tn.nd,h.tn.pd,?_,?_,?_⟩,h.v1,h.v2,h.v3,h.v4,h.v5,h.v6,h.v7,?_,?_,h.k1,h.k2,h.k3,h.k4,h.nk,h.pk⟩
 ·obtain ⟨x,y,z,ex⟩:=h.tn.g
  exact ⟨x,y,z,by rw [aw h.pk];exact ex⟩
 ·intro c o ec nc
  rw [aw (aK ec h.nk)]
  exact h.tn.bb c o ec nc
 ·rw [aw (sy e h.tn.ed).symm]
  exact h.tn.ed
 ·rw [aw h.k1];exact h.tn.emn
 ·rw [aw h.k2];exact h.tn.eln
 ·rw [aw h.k3];exact h.ep
 ·rw [aw h.k4];exact h.em
theorem Nq.kp {H H':Hp} (k:K5 H H') (kl:∀ x us,x≠lk->∀ fs:List (Str×Str),H x=some (.lst us)->Paired (Lf H) us fs->H' x=some (.lst us)) {x:Kn} (h:Nq lk H u x):Nq lk H' u x:=by
 obtain ⟨t,lf,b,rfl,hn,ht,⟨us,e,hp⟩,hd⟩:=h
 exact ⟨t,lf,b,rfl,hn,k _ _ ht,⟨us,kl _ _ hn _ e hp,bS (fun _ _ h=>Lf.kt2 k h) hp⟩,hd.kt k⟩
def CP (IX c k:Nat):Prop:=(IX=0/\c=0/\k=2)\/(IX=1/\c=3/\k=2)\/(IX=2/\c=0/\k=4)\/(IX=3/\c=1/\2<=k/\k<=3)
variable {IX:Nat}
theorem Ev (h:IX < 4):([V.int 0,.int 3,.int 0,.int 1]:List V)[IX]?=some (.int (([0,3,0,1]:List Nat).getD IX 0:Nat)):=by
 match IX,h with
 | 0,_=>rfl
 | 1,_=>rfl
 | 2,_=>rfl
 | 3,_=>rfl
theorem Ew (r:Nat) (h:IX < 4):([V.int 2,.int 2,.int 4,.int (2+(r:Int))]:List V)[IX]?=some (.int (([2,2,4,2+r]:List Nat).getD IX 0:Nat)):=by
 match IX,h with
 | 0,_=>rfl
 | 1,_=>rfl
 | 2,_=>rfl
 | 3,_=>rfl
theorem Ey (r:Nat) (h:IX < 4):([V.int 8,.int 1,.int 5,.int (1+(r:Int))]:List V)[IX]?=some (.int (([8,1,5,1+r]:List Nat).getD IX 0:Nat)):=by
 match IX,h with
 | 0,_=>rfl
 | 1,_=>rfl
 | 2,_=>rfl
 | 3,_=>rfl
theorem Ez {IX r:Nat} (h:IX < 4) (hr:r < 2):CP IX (([0,3,0,1]:List Nat).getD IX 0) (([2,2,4,2+r]:List Nat).getD IX 0):=by
 match IX,h with
 | 0,_=>exact .inl ⟨rfl,rfl,rfl⟩
 | 1,_=>exact .inr (.inl ⟨rfl,rfl,rfl⟩)
 | 2,_=>exact .inr (.inr (.inl ⟨rfl,rfl,rfl⟩))
 | 3,_=>exact .inr (.inr (.inr ⟨rfl,rfl,by show 2<=2+r;lia,by show 2+r<=3;lia⟩))
theorem EA {IX r c k most:Nat} (h:IX < 4) (hc:CP IX c k) (hr:r < most) (hm:most<=3):sx (([8,1,5,1+r]:List Nat).getD IX 0) c k:=by
 unfold sx
 rcases hc with ⟨rfl,rfl,rfl⟩|⟨rfl,rfl,rfl⟩|⟨rfl,rfl,rfl⟩|⟨rfl,rfl,h1,h2⟩
 ·exact .inl ⟨by show 1<=8;decide,by show 8<=8;decide,rfl,rfl⟩
 ·exact .inr (.inl ⟨rfl,rfl,rfl⟩)
 ·exact .inr (.inr (.inl ⟨by show 1<=5;decide,by show 5<=5;decide,rfl,rfl⟩))
 ·exact .inr (.inr (.inr ⟨by show 1<=1+r;lia,by show 1+r<=3;lia,rfl,h1,h2⟩))
theorem vx (zs:List Str) (n:Nat):(ai zs).drop n=ai (zs.drop n):=by unfold ai;rw [List.map_drop]
def MQ:List Str:=["place","number","row","mark"]
theorem zY (h:i < 4):([V.str "place",.str "number",.str "row",.str "mark"]:List V)[i]?=some (.str (MQ.getD i ""))/\MQ.getD i ""∈dv:=by
 match i,h with
 | 0,_=>exact ⟨rfl,by decide +kernel⟩
 | 1,_=>exact ⟨rfl,by decide +kernel⟩
 | 2,_=>exact ⟨rfl,by decide +kernel⟩
 | 3,_=>exact ⟨rfl,by decide +kernel⟩
def vz (b:Nat):Nat:=3+if 0 < b then 1 else 0
theorem zZ (b:Nat):(3+(if decide ((b:Int) > 0)=true then 1 else 0):Int)=(vz b:Nat):=by
 unfold vz
 by_cases h:0 < b
 ·rw [if_pos (decide_eq_true (by lia)),if_pos h];rfl
 ·rw [if_neg (by simp;lia),if_neg h];rfl
theorem z4 (b:Nat):3<=vz b/\vz b<=4:=by unfold vz;split<;>lia
theorem mY {n c k:Nat} (h:sx n c k):1<=n/\n<=8/\c<=3/\2<=k/\k<=4:=by unfold sx at h;lia
theorem CQ (zs:List Str) (A b:Nat):zs.take A++(zs.drop A).take b++zs.drop (A+b)=zs:=by
 rw [G1,<-List.drop_drop,Hx,Hx]
theorem xR {H H':Hp} (g:K3 H p) (b:K8 p H H'):∀ x us,x≠lk->∀ fs:List (Str×Str),H x=some (.lst us)->Paired (Lf H) us fs->H' x=some (.lst us):=fun x us _ fs e hp=>b _ _ e (bG g e (qx hp))
theorem EB {A b j:Nat} (h:A+b+j < zs.length):nG (ai zs) ((A:Int)+(b:Int)+(j:Int))=some (.str zs[A+b+j]):=by
 have e:(A:Int)+(b:Int)+(j:Int)=((A+b+j:Nat):Int):=by lia
 rw [e]
 exact bf (by unfold ai;rw [GY,GJ h];rfl)
theorem Lj:ay ["_law_stream_here","_law_most","_law_mode","_law_table_here","_law_many","_law_names_here","_law_choices","_law_deep","_law_name","_law_fields","_law_k","_law_sort"] ["_law_stream_here","_law_most"] (aj nZ):=cH (by decide +kernel)
def JT (H:Hp) (p:Addr) (most:Nat) (σ:St) (H':Hp) (d IY ln:Addr) (A b IX:Nat) (zs:List Str) (kv:List (cE×V)) (W cl dp:Nat) (v6 v7:Option V):Prop:=
 σ=[some (.ref p),some (.int most),some (.int (IX:Nat)),some (.ref d),some (.ref IY),some (.ref ln),v6,v7,none,none,none,none]/\TN H p d IY ln A b zs kv H'/\IX < 4/\1<=A/\A<=4/\b<=3/\zs.length=A+b+3/\zs.Nodup/\(∀ z∈zs,cz z)/\4<=W/\W<=24/\4<=cl/\cl<=64/\dp<=8/\kv.length<=7/\bh kv (kS "width")=some (.int (W:Nat))/\bh kv (kS "cells")=some (.int (cl:Nat))/\bh kv (kS "depth")=some (.int (dp:Nat))
theorem z5 (F:K7 K "_law_table" "_law_table" nZ f fd) (B:Bl mg) (TK':Fn P w K mg base "_law_take" 1 ["_law_stream_here","_law_many"] eB) (LN:Fn P w K mg base "_law_names" 2 ["_law_stream_here","_law_many"] lW) (DE:Fn P w K mg base "_law_deed" n ["_law_stream_here","_law_table_here","_law_fields","_law_choices","_law_deep"] (kA 4 4)) (hn:2<=n):KU P w K mg base bY (n+1) f fd ["_law_stream_here","_law_most"] l0:=by
 have ZZ:=Lj
 walk_at "o"
 ·obtain ⟨p,most,rfl,hp,hm1,hm3,q⟩:=h
  have sz:(100000:Nat)<=sizeLine:=by decide
  have hu:=dP hr
  have IS:KY 1 _:=hr.mono (by lia)
  have IU:KY 2 _:=hr.mono (by lia)
  refine ⟨_,bz (fun σ H'=>∃ IX:Nat,σ=[some (.ref p),some (.int most),some (.int (IX:Nat)),none,none,none,none,none,none,none,none,none]/\IX < 4/\K3 H' p/\K8 p H H') (ap (i:=2) Lj.nd rfl (Or.inl rfl) (aQ (mJ rfl) (by rfl) B.min PyProof.Rows.boot_min (aa ag (aa (am TK' IS rfl (aa (pv 0) (aa ag ab))) ab))))
   (ae (ap (i:=3) Lj.nd rfl (Or.inl rfl) (za (k9 af (ar bW ag (am TK' IS rfl (aa (pv 0) (aa ag ab)))) (k9 af (ar bW ag (am TK' IS rfl (aa (pv 0) (aa ag ab)))) (k9 af (am TK' IS rfl (aa (pv 0) (aa ag ab))) y9))) rfl rfl (by intro z;cases z) (by show 3<=15;decide)))
   (bz (fun σ H'=>∃ (IX:Nat) (d IY:Addr) (A b:Nat) (kv:List (cE×V)) (W cl dp:Nat),σ=[some (.ref p),some (.int most),some (.int (IX:Nat)),some (.ref d),some (.ref IY),none,none,none,none,none,none,none]/\IX < 4/\K3 H' p/\K8 p H H'/\H d=none/\p≠d/\H' d=some (.dK kv)/\H' IY=some (.lst [.int (A:Nat),.int (b:Nat)])/\p≠IY/\1<=A/\A<=4/\b<=3/\kv.length<=3/\4<=W/\W<=24/\4<=cl/\cl<=64/\dp<=8/\bh kv (kS "width")=some (.int (W:Nat))/\bh kv (kS "cells")=some (.int (cl:Nat))/\bh kv (kS "depth")=some (.int (dp:Nat))) (ap (i:=4) Lj.nd rfl (Or.inl rfl) (aB (aa (ar bW ag (am TK' IS rfl (aa (pv 0) (aa ag ab)))) (aa (am TK' IS rfl (aa (pv 0) (aa ag ab))) ab))))
   (bz (fun σ H'=>∃ d IY ln A b IX zs kv W cl dp,JT H p most σ H' d IY ln A b IX zs kv W cl dp none none/\kv.length<=3) (ap (i:=5) Lj.nd rfl (Or.inl rfl) (am LN IU rfl (aa (pv 0) (aa (ar bW (ar bW (aq aL (pv 4) ag (fun _ _=>rfl)) (aq aL (pv 4) ag (fun _ _=>rfl))) ag) ab))))
   (ae (dQ hu (pv 3) af (dE j9 (pv 5) j8 (da (aq aL (pv 4) ag (fun _ _=>rfl)))) rfl)
   (ae (dQ hu (pv 3) af (dE j9 (pv 5) (da (aq aL (pv 4) ag (fun _ _=>rfl))) (da (ar bW (aq aL (pv 4) ag (fun _ _=>rfl)) (aq aL (pv 4) ag (fun _ _=>rfl))))) rfl)
   (bz (fun σ H'=>∃ d IY ln A b IX zs kv W cl dp lp lm gt,JT H p most σ H' d IY ln A b IX zs kv W cl dp none none/\kv.length<=6/\bh kv (kS "places")=some (.ref lp)/\bh kv (kS "marks")=some (.ref lm)/\bh kv (kS "gate")=some (gV gt)/\H' lp=some (.lst (ai (zs.take A)))/\H' lm=some (.lst (ai ((zs.drop A).take b)))/\(∀ g,gt=some g->g < b)) (dQ hu (pv 3) af (aq aL (aB (aa kI (aa (am TK' IS rfl (aa (pv 0) (aa (aQ (mI rfl) (by rfl) B.max PyProof.Rows.boot_max (aa ag (aa (aq aL (pv 4) ag (fun _ _=>rfl)) ab))) ab))) ab))) (aU dX (by rfl) B.int HB (aa (hI (cn kJ (aq aL (pv 4) ag (fun _ _=>rfl)) ag (av _)) (gZ (cn be (am TK' IS rfl (aa (pv 0) (aa ag ab))) ag (av _)))) ab)) (fun _ _=>rfl)) rfl)
   (ae (dQ hu (pv 3) af (aB ab) rfl)
   (ae (ap (i:=6) Lj.nd rfl (Or.inl rfl) (aq aL (aB (aa ag (aa ag (aa ag (aa ag ab))))) (pv 2) (fun _ _=>rfl)))
   (bz (fun σ H'=>∃ d IY ln A b IX zs kv W cl dp lp lm lk gt c k,σ=[some (.ref p),some (.int most),some (.int (IX:Nat)),some (.ref d),some (.ref IY),some (.ref ln),some (.int (c:Nat)),some (.int (k:Nat)),none,none,none,none]/\TL H p d IY ln lp lm lk A b W cl dp zs kv gt H'/\H' lk=some (.lst [])/\IX < 4/\CP IX c k/\1<=A/\A<=4/\b<=3/\zs.length=A+b+3/\zs.Nodup/\(∀ z∈zs,cz z)/\4<=W/\W<=24/\4<=cl/\cl<=64/\dp<=8/\(∀ g,gt=some g->g < b)) (ap (i:=7) Lj.nd rfl (Or.inl rfl) (aq aL (aB (aa ag (aa ag (aa ag (aa (ar bW ag (am TK' IS rfl (aa (pv 0) (aa ag ab)))) ab))))) (pv 2) (fun _ _=>rfl)))
   (ae (cr PassesOwn.never rfl (fr (am LN IU rfl (aa (pv 0) (aa (aq aL (aB (aa ag (aa ag (aa ag (aa (ar bW ag (am TK' IS rfl (aa (pv 0) (aa (pv 1) ab)))) ab))))) (pv 2) (fun _ _=>rfl)) ab)))) (az (i:=8) Lj.nd rfl (Or.inl rfl))
    (ae (ap (i:=9) Lj.nd rfl (Or.inl rfl) (aB ab))
    (ae (cr PassesOwn.never rfl (gC rfl B.range (aa (am TK' IS rfl (aa (pv 0) (aa ag ab))) ab)) (az (i:=10) Lj.nd rfl (Or.inl rfl))
     (ae (ap (i:=11) Lj.nd rfl (Or.inl rfl) (aq aL (aB (aa af (aa af (aa af (aa af ab))))) (am TK' IS rfl (aa (pv 0) (aa (ar bW ag (aU dX (by rfl) B.int HB (aa (cn kJ (aq aL (pv 4) ag (fun _ _=>rfl)) ag (av _)) ab))) ab))) (fun _ _=>rfl)))
     (ah (aN (b9 GS GR GQ bq (pv 9) (aa (aC (aa (aq aL (pv 5) (ar bW (ar bW (aq aL (pv 4) ag (fun _ _=>rfl)) (aq aL (pv 4) ag (fun _ _=>rfl))) (pv 10)) (fun _ _=>rfl)) (aa (pv 11) ab))) ab))))))
    (ah (aN (b9 GS GR GQ bq (bD hu (pv 3) af (fun _ _=>rfl)) (aa (aC (aa (pv 8) (aa (pv 9) (aa (am DE hr rfl (aa (pv 0) (aa (pv 3) (aa (pv 9) (aa (pv 6) (aa (pv 7) ab)))))) ab)))) ab)))))))
   (ah (ao (pv 3))))))))))))),?_⟩
  refine ⟨?_,?_⟩
  ·rintro σ H1 ⟨IX,rfl,hmo,g1,b1⟩
   refine fun d nd=>?_
   have s2:=ad (o:=.dK []) nd
   have ed2:(aI H1 d (.dK [])) d=some (.dK []):=ac
   have g2:=g1.same s2
   have pd:p≠d:=g1.ne nd
   have dH:H d=none:=sk b1 g1 nd
   have b2:=b1.same s2
   generalize aI H1 d (.dK ([]:List (cE×V)))=H2 at *
   refine ⟨_,rfl,p,21,rfl,g2,by decide,by decide,fun w0 H3 hw0 g3 b3=>?_⟩
   refine ⟨_,_,rfl,rfl,_,rfl,p,61,rfl,g3,by decide,by decide,fun c0 H4 hc0 g4 b4=>?_⟩
   refine ⟨_,_,rfl,rfl,_,rfl,p,9,rfl,g4,by decide,by decide,fun d0 H5 hd0 g5 b5=>?_⟩
   have b25:=(b3.trans b4).trans b5
   have ed5:=b25 _ _ ed2 pd.symm
   obtain ⟨kv,ek,lk,w1,w2,w3⟩:=Gu (.int ((4+w0:Nat):Int)) (.int ((4+c0:Nat):Int)) (.int ((d0:Nat):Int))
   refine ⟨ed5,[(Sum.inr "width",.int ((4+w0:Nat):Int)),(Sum.inr "cells",.int ((4+c0:Nat):Int)),(Sum.inr "depth",.int ((d0:Nat):Int))],rfl,by show 3<=15;decide,?_⟩
   have ek':ig [] [(Sum.inr "width",V.int ((4+w0:Nat):Int)),(Sum.inr "cells",V.int ((4+c0:Nat):Int)),(Sum.inr "depth",V.int ((d0:Nat):Int))]=kv:=ek
   rw [ek']
   have ed6:(aI H5 d (.dK kv)) d=some (.dK kv):=ac
   have g6:K3 (aI H5 d (.dK kv)) p:=let ⟨x,y,z,e⟩:=g5;⟨x,y,z,dU e ed5⟩
   have b6:K8 p H (aI H5 d (.dK kv)):=fun b o e nb=>by rw [aw (aK e dH)];exact (b2.trans b25) b o e nb
   generalize aI H5 d (.dK kv)=H6 at *
   clear ed5 g5 g4 g3 g2 b25 b5 b4 b3 b2 b1 g1 ed2 s2 nd
   refine ⟨?_,?_⟩
   rotate_left
   ·refine ⟨_,rfl,p,4,rfl,g6,by decide,by decide,fun a0 H7 ha0 g7 b7=>?_⟩
    refine ⟨_,_,rfl,rfl,_,rfl,p,4,rfl,g7,by decide,by decide,fun b0 H8 hb0 g8 b8=>?_⟩
    refine ⟨aW,fun IY nmn=>?_⟩
    have b68:=b7.trans b8
    have ed8:=b68 _ _ ed6 pd.symm
    have b08:=b6.trans b68
    have s9:=ad (o:=.lst [.int ((1+a0:Nat):Int),.int (b0:Nat)]) nmn
    exact ⟨IX,d,IY,1+a0,b0,kv,4+w0,4+c0,d0,rfl,hmo,g8.same s9,b08.same s9,dH,pd,s9 _ _ ed8,ac,g8.ne nmn,by lia,by lia,by lia,lk,by lia,by lia,by lia,by lia,by lia,w1,w2,w3⟩
   clear g6 b6 ed6 dH pd ek ek' w1 w2 w3 lk hw0 hc0 hd0 hmo
   rintro σ H9 ⟨IX,d,IY,A,b,kv,W,cl,dp,rfl,hmo,g9,b09,dH,pd,ed9,emn,pmn,hA1,hA4,hb3,lk,hW4,hW24,hc4,hc64,hd8,w1,w2,w3⟩
   refine ⟨?_,?_⟩
   ·clear emn g9 b09 ed9 pmn
    rintro σ H1 ⟨d,IY,ln,A,b,IX,zs,kv,W,cl,dp,⟨rfl,T1,hmo,hA1,hA4,hb3,hzl,hznd,hznf,hW4,hW24,hc4,hc64,hd8,_,k1,k2,k3⟩,hkl⟩
    refine ⟨_,rfl,_,rfl,IY,_,_,_,rfl,rfl,KW.of T1.emn,aT,(A:Int),rfl,ln,_,rfl,KW.of T1.eln,fun lp nlp=>?_⟩
    rw [CF,jL]
    have s2:=ad (o:=.lst (ai (zs.take A))) nlp
    have ep2:(aI H1 lp (.lst (ai (zs.take A)))) lp=some (.lst (ai (zs.take A))):=ac
    have T2:=T1.same s2
    generalize aI H1 lp (.lst (ai (zs.take A)))=H2 at *
    refine ⟨_,rfl,d,_,rfl,LA.k (k:=kS "places") T2.ed (by lia),?_⟩
    have T3:=T2.put (bu kv (kS "places") (.ref lp))
    have ep3:=dU (kv':=bu kv (kS "places") (.ref lp)) ep2 T2.ed
    generalize aI H2 d (.dK (bu kv (kS "places") (.ref lp)))=H3 at *
    clear T2 ep2 s2 T1 nlp
    refine ⟨_,rfl,_,rfl,IY,_,_,_,rfl,rfl,KW.of T3.emn,aT,(A:Int),rfl,_,rfl,IY,_,_,_,rfl,rfl,KW.of T3.emn,aT,_,rfl,IY,_,_,_,rfl,rfl,KW.of T3.emn,bQ,_,_,rfl,rfl,((A+b:Nat):Int),rfl,ln,_,rfl,KW.of T3.eln,fun lm nlm=>?_⟩
    rw [CG _ A b (by rw [aY];lia),vx,jL]
    have s4:=ad (o:=.lst (ai ((zs.drop A).take b))) nlm
    have em4:(aI H3 lm (.lst (ai ((zs.drop A).take b)))) lm=some (.lst (ai ((zs.drop A).take b))):=ac
    have T4:=T3.same s4
    have ep4:=s4 _ _ ep3
    generalize aI H3 lm (.lst (ai ((zs.drop A).take b)))=H4 at *
    have l1:=i0 kv (kS "places") (.ref lp)
    refine ⟨_,rfl,d,_,rfl,LA.k (k:=kS "marks") T4.ed (by lia),?_⟩
    have l2:=i0 (bu kv (kS "places") (.ref lp)) (kS "marks") (.ref lm)
    have T5:=T4.put (bu (bu kv (kS "places") (.ref lp)) (kS "marks") (.ref lm))
    have ep5:=dU (kv':=bu (bu kv (kS "places") (.ref lp)) (kS "marks") (.ref lm)) ep4 T4.ed
    have em5:=dU (kv':=bu (bu kv (kS "places") (.ref lp)) (kS "marks") (.ref lm)) em4 T4.ed
    generalize aI H4 d (.dK (bu (bu kv (kS "places") (.ref lp)) (kS "marks") (.ref lm)))=H5 at *
    have j1:bh (bu (bu kv (kS "places") (.ref lp)) (kS "marks") (.ref lm)) (kS "width")=some (.int (W:Nat)):=by rw [cm (by decide +kernel),cm (by decide +kernel)];exact k1
    have j2:bh (bu (bu kv (kS "places") (.ref lp)) (kS "marks") (.ref lm)) (kS "cells")=some (.int (cl:Nat)):=by rw [cm (by decide +kernel),cm (by decide +kernel)];exact k2
    have j3:bh (bu (bu kv (kS "places") (.ref lp)) (kS "marks") (.ref lm)) (kS "depth")=some (.int (dp:Nat)):=by rw [cm (by decide +kernel),cm (by decide +kernel)];exact k3
    have j4:bh (bu (bu kv (kS "places") (.ref lp)) (kS "marks") (.ref lm)) (kS "places")=some (.ref lp):=by rw [cm (by decide +kernel),iC]
    have j5:bh (bu (bu kv (kS "places") (.ref lp)) (kS "marks") (.ref lm)) (kS "marks")=some (.ref lm):=by rw [iC]
    have l12:(bu (bu kv (kS "places") (.ref lp)) (kS "marks") (.ref lm)).length<=5:=by lia
    generalize bu (bu kv (kS "places") (.ref lp)) (kS "marks") (.ref lm)=kv5 at *
    clear T4 T3 ep4 ep3 em4 s4 l1 l2 k1 k2 k3 nlm hkl
    refine ⟨?_,?_⟩
    ·clear T5 ep5 em5 j1 j2 j3 j4 j5 l12
     rintro σ H6 ⟨d,IY,ln,A,b,IX,zs,kv,W,cl,dp,lp,lm,gt,⟨rfl,T6,hmo,hA1,hA4,hb3,hzl,hznd,hznf,hW4,hW24,hc4,hc64,hd8,_,k1,k2,k3⟩,hkl,k4,k5,k6,ep6,em6,hgt⟩
     refine ⟨aW,fun lk nlk=>?_⟩
     have s7:=ad (o:=.lst []) nlk
     have ek7:(aI H6 lk (.lst [])) lk=some (.lst []):=ac
     have T7:=T6.same s7
     have ep7:=s7 _ _ ep6
     have em7:=s7 _ _ em6
     have n1:=aK T6.emn nlk
     have n2:=aK T6.eln nlk
     have n3:=aK ep6 nlk
     have n4:=aK em6 nlk
     have n5:H lk=none:=sk T6.bb T6.g nlk
     have n6:p≠lk:=T6.g.ne nlk
     generalize aI H6 lk (.lst ([]:List V))=H7 at *
     refine ⟨_,rfl,d,_,rfl,LA.k (k:=kS "kinds") T7.ed (by lia),?_⟩
     have TL8:TL H p d IY ln lp lm lk A b W cl dp zs (bu kv (kS "kinds") (.ref lk)) gt (aI H7 d (.dK (bu kv (kS "kinds") (.ref lk)))):=
      ⟨T7.put _,by rw [cm (by decide +kernel)];exact k1,by rw [cm (by decide +kernel)];exact k2,by rw [cm (by decide +kernel)];exact k3,by rw [cm (by decide +kernel)];exact k4,by rw [cm (by decide +kernel)];exact k5,by rw [cm (by decide +kernel)];exact k6,by rw [iC],dU ep7 T7.ed,dU em7 T7.ed,n1,n2,n3,n4,n5,n6⟩
     have ek8:=dU (kv':=bu kv (kS "kinds") (.ref lk)) ek7 T7.ed
     generalize aI H7 d (.dK (bu kv (kS "kinds") (.ref lk)))=H8 at *
     generalize bu kv (kS "kinds") (.ref lk)=kv8 at *
     clear T7 T6 ep7 em7 ep6 em6 s7 nlk ek7 k1 k2 k3 k4 k5 k6 hkl
     refine ⟨aW,fun l9 n9=>?_⟩
     have s9:=ad (o:=.lst [V.int 0,.int 3,.int 0,.int 1]) n9
     have e9:(aI H8 l9 (.lst [V.int 0,.int 3,.int 0,.int 1])) l9=some (.lst [V.int 0,.int 3,.int 0,.int 1]):=ac
     have TL9:=TL8.same s9
     have ek9:=s9 _ _ ek8
     generalize aI H8 l9 (.lst [V.int 0,.int 3,.int 0,.int 1])=H9 at *
     refine ⟨_,rfl,l9,_,_,_,rfl,rfl,KW.of e9,bf (Ev hmo),?_⟩
     clear TL8 ek8 s9 e9 n9
     refine ⟨?_,?_⟩
     rotate_left
     ·refine ⟨_,rfl,p,2,rfl,TL9.tn.g,by decide,by decide,fun r Ha hra ga ba=>?_⟩
      refine ⟨_,_,rfl,rfl,aW,fun lb nb=>?_⟩
      have sb:=ad (o:=.lst [V.int 2,.int 2,.int 4,.int (2+(r:Int))]) nb
      have eb:(aI Ha lb (.lst [V.int 2,.int 2,.int 4,.int (2+(r:Int))])) lb=some (.lst [V.int 2,.int 2,.int 4,.int (2+(r:Int))]):=ac
      refine ⟨_,rfl,lb,_,_,_,rfl,rfl,KW.of eb,bf (Ew r hmo),?_⟩
      exact ⟨d,IY,ln,A,b,IX,zs,kv8,W,cl,dp,lp,lm,lk,gt,_,_,rfl,(TL9.but ga ba).same sb,sb _ _ (ba _ _ ek9 n6.symm),hmo,Ez hmo hra,hA1,hA4,hb3,hzl,hznd,hznf,hW4,hW24,hc4,hc64,hd8,hgt⟩
     clear TL9 ek9 n1 n2 n3 n4 n5 n6
     rintro σ H1 ⟨d,IY,ln,A,b,IX,zs,kv,W,cl,dp,lp,lm,lk,gt,c,k,rfl,TL1,ek1,hmo,hck,hA1,hA4,hb3,hzl,hznd,hznf,hW4,hW24,hc4,hc64,hd8,hgt⟩
     refine ⟨_,rfl,_,rfl,_,rfl,p,most,rfl,TL1.tn.g,by lia,by lia,fun r H2 hr2' g2 b2=>?_⟩
     refine ⟨_,_,rfl,rfl,aW,fun l3 n3=>?_⟩
     have s3:=ad (o:=.lst [V.int 8,.int 1,.int 5,.int (1+(r:Int))]) n3
     have e3:(aI H2 l3 (.lst [V.int 8,.int 1,.int 5,.int (1+(r:Int))])) l3=some (.lst [V.int 8,.int 1,.int 5,.int (1+(r:Int))]):=ac
     refine ⟨_,rfl,l3,_,_,_,rfl,rfl,KW.of e3,bf (Ey r hmo),?_⟩
     have TL3:=(TL1.but g2 b2).same s3
     have ek3:=s3 _ _ (b2 _ _ ek1 TL1.pk.symm)
     have hmd:=EA hmo hck hr2' hm3
     obtain ⟨hn1,hn8,hc3,hk2,hk4⟩:=mY hmd
     generalize ([8,1,5,1+r]:List Nat).getD IX 0=nk at *
     generalize aI H2 l3 (.lst [V.int 8,.int 1,.int 5,.int (1+(r:Int))])=H3 at *
     refine ⟨p,nk,rfl,TL3.tn.g,by lia,fun lkn H4 kz hkl hknd hknf g4 b4 nkn ekn=>?_⟩
     have TL4:=TL3.but g4 b4
     have ek4:=b4 _ _ ek3 TL3.pk.symm
     have nlk:lkn≠lk:=(aK ek3 nkn).symm
     clear TL3 TL1 ek3 ek1 e3 s3 n3 g2 b2 nkn
     refine ⟨lkn,rfl,⟨_,KW.of ekn⟩,?_⟩
     have h3l:zs.length=A+b+3:=hzl
     refine pH (K:=K) (a:=lkn) (xs:=ai kz) (fun i σ H'=>∃ (v8 v9 v10 v11:Option V) (us:List V) (IZ:List Kn),σ=[some (.ref p),some (.int most),some (.int (IX:Nat)),some (.ref d),some (.ref IY),some (.ref ln),some (.int (c:Nat)),some (.int (k:Nat)),v8,v9,v10,v11]/\TL H p d IY ln lp lm lk A b W cl dp zs kv gt H'/\H' lkn=some (.lst (ai kz))/\H' lk=some (.lst us)/\Paired (Nq lk H') us IZ/\IZ.map Kn.name=kz.take i/\∀ x∈IZ,KL W (zs.take A) ((zs.drop A).take b) (zs.drop (A+b)) c k x) ⟨_,_,_,_,[],[],rfl,TL4,ekn,ek4,.nil,rfl,fun x hx=>by cases hx⟩ (fun i σ H' _ ⟨_,_,_,_,_,_,_,_,e',_⟩=>KW.of e') ?_ ?_
     ·rintro i x σ H1 hx ⟨v8,v9,v10,v11,us,IZ,rfl,TL1,ekn1,ek1,Ja,hkm,hkk⟩
      obtain ⟨z,hz,rfl⟩:=gR hx
      have hlus:=Ja.length
      have hi8:=(GA.mp hz).1
      have hil:IZ.length=i:=by
       have:=congrArg List.length hkm
       rw [GC,GG] at this
       have:=(GA.mp hz).1
       lia
      refine ⟨aW,fun lf nlf=>?_⟩
      have s2:=ad (o:=.lst []) nlf
      have ef2:(aI H1 lf (.lst [])) lf=some (.lst []):=ac
      have flk:lf≠lk:=(aK ek1 nlf).symm
      have plf:p≠lf:=TL1.tn.g.ne nlf
      have g2:=TL1.tn.g.same s2
      generalize aI H1 lf (.lst ([]:List V))=H2 at *
      refine ⟨_,rfl,p,4,rfl,g2,by decide,by decide,fun j4 H3 hj4 g3 b3=>⟨_,rfl,by lia,by lia,?_⟩⟩
      rw [show ((j4:Int)).toNat=j4 from HL j4]
      have b13:K8 p H1 H3:=(dB s2).trans b3
      refine gE (lo:=0) (n:=j4) (fun j σ H'=>∃ (v10 v11:Option V) (fu:List V) (fs:List (Str×Str)),σ=[some (.ref p),some (.int most),some (.int (IX:Nat)),some (.ref d),some (.ref IY),some (.ref ln),some (.int (c:Nat)),some (.int (k:Nat)),some (.str z),some (.ref lf),v10,v11]/\K3 H' p/\K8 p H1 H'/\H' lf=some (.lst fu)/\Paired (Lf H') fu fs/\fs.map (·.1)=(zs.drop (A+b)).take j/\∀ f∈fs,f.2∈dv) ⟨_,_,[],[],rfl,g3,b13,b3 _ _ ef2 plf.symm,.nil,rfl,fun f hf=>by cases hf⟩ ?_ ?_
      ·rintro j σ H4 hj ⟨v10,v11,fu,fs,rfl,g4,b4,ef4,hfu,hfm,hfs⟩
       have hj':j < j4:=hj
       have e0:((0:Int)+(j:Int))=(j:Int):=by lia
       rw [e0]
       have TL4:=TL1.but g4 b4
       refine ⟨aW,fun l5 n5=>?_⟩
       have s5:=ad (o:=.lst [V.str "place",.str "number",.str "row",.str "mark"]) n5
       have e5:(aI H4 l5 (.lst [V.str "place",.str "number",.str "row",.str "mark"])) l5=some (.lst [V.str "place",.str "number",.str "row",.str "mark"]):=ac
       have pl5:p≠l5:=g4.ne n5
       generalize aI H4 l5 (.lst [V.str "place",.str "number",.str "row",.str "mark"])=H5 at *
       have TL5:=TL4.same s5
       obtain ⟨hs3,hs4⟩:=z4 b
       refine ⟨_,rfl,_,rfl,IY,_,_,_,rfl,rfl,KW.of TL5.tn.emn,bQ,_,_,rfl,rfl,.inr ⟨_,rfl,_,_,rfl,rfl,?_⟩⟩
       refine ⟨p,vz b,congrArg (fun x=>[V.ref p,V.int x]) (zZ b),TL5.tn.g,by lia,by lia,fun si H6 hsi g6 b6=>?_⟩
       obtain ⟨hs1,hs2⟩:=zY (i:=si) (by lia)
       refine ⟨l5,_,_,_,rfl,rfl,KW.of (b6 _ _ e5 pl5.symm),bf hs1,?_⟩
       have TL6:=TL5.but g6 b6
       have b46:K8 p H4 H6:=(dB s5).trans b6
       have ef6:=b46 _ _ ef4 plf.symm
       have k46:K5 H4 H6:=dM g4 b46
       have hin:A+b+j < zs.length:=by lia
       refine ⟨_,rfl,.inl ⟨rfl,_,KW.of ef6⟩,?_⟩
       refine ⟨_,rfl,_,rfl,IY,_,_,_,rfl,rfl,KW.of TL6.tn.emn,aT,_,rfl,IY,_,_,_,rfl,rfl,KW.of TL6.tn.emn,bQ,_,_,rfl,rfl,_,rfl,_,_,rfl,rfl,ln,_,_,_,rfl,rfl,KW.of TL6.tn.eln,EB hin,_,rfl,aW,fun t nt=>?_⟩
       have s7:=ad (o:=.tup [.str zs[A+b+j],.str (MQ.getD si "")]) nt
       have e7:(aI H6 t (.tup [.str zs[A+b+j],.str (MQ.getD si "")])) t=some (.tup [.str zs[A+b+j],.str (MQ.getD si "")]):=ac
       have g7:=g6.same s7
       generalize aI H6 t (.tup [V.str zs[A+b+j],.str (MQ.getD si "")])=H7 at *
       have ef7:=s7 _ _ ef6
       have lfu:=hfu.length
       have lfs:fs.length=j:=by
        have:=congrArg List.length hfm
        rw [GC,GG,Hy] at this
        lia
       refine ⟨lf,_,_,rfl,rfl,ef7,by lia,?_⟩
       have kt:K5 H7 (aI H7 lf (.lst (fu++[.ref t]))):=fun b' xs eb=>by
        rw [aw]
        ·exact eb
        ·rintro rfl
         rw [ef7] at eb
         cases eb
       have k47:K5 H4 (aI H7 lf (.lst (fu++[.ref t]))):=fun b' xs eb=>kt _ _ (s7 _ _ (k46 _ _ eb))
       refine ⟨_,_,fu++[.ref t],fs++[(zs[A+b+j],MQ.getD si "")],rfl,?_,?_,ac,gq ⟨t,rfl,kt _ _ e7⟩ (bS (fun _ _ h=>Lf.kt2 k47 h) hfu),?_,?_⟩
       ·obtain ⟨x,y,z',ex⟩:=g7
        exact ⟨x,y,z',by rw [aw plf];exact ex⟩
       ·intro b' o eb nb
        rw [aw (aK eb nlf)]
        exact s7 _ _ ((b4.trans b46) b' o eb nb)
       ·rw [GK,hfm,GX,List.getElem?_drop,GJ hin]
        rfl
       ·intro f hf
        rcases GP.mp hf with h|h
        ·exact hfs f h
        ·rw [G8.mp h];exact hs2
      ·rintro σ H4 ⟨v10,v11,fu,fs,rfl,g4,b4,ef4,hfu,hfm,hfs⟩
       have TL4:=TL1.but g4 b4
       have ek4:=b4 _ _ ek1 TL1.pk.symm
       have lfs:fs.length=j4:=by
        have:=congrArg List.length hfm
        rw [GC,GG,Hy] at this
        lia
       refine ⟨_,rfl,d,_,rfl,cj TL4.tn.ed TL4.v7,.inl ⟨rfl,_,KW.of ek4⟩,?_⟩
       have hTb:M9 H4 d W (zs.take A) ((zs.drop A).take b):=⟨kv,lp,lm,TL4.tn.ed,TL4.v1,TL4.v4,TL4.v5,TL4.ep,TL4.em⟩
       have hLx:Lx H4 p d lf W (zs.take A) ((zs.drop A).take b) fs:=⟨g4,hTb,⟨fu,ef4,hfu⟩,by lia,hW4,hW24,by rw [GG];lia,by rw [GG];lia,by rw [GG];lia,fun z hz=>hznf z (List.mem_of_mem_drop (HJ hz)),fun z hz=>hznf z (HJ hz)⟩
       refine ⟨_,rfl,_,rfl,_,rfl,_,rfl,_,rfl,_,rfl,_,rfl,p,d,lf,W,zs.take A,(zs.drop A).take b,fs,c,k,rfl,hLx,hk2,hk4,by lia,fun v H5 dd g5 b5 hv hdo=>⟨aW,fun t nt=>?_⟩⟩
       have s6:=ad (o:=.tup [.str z,.ref lf,v]) nt
       have e6:(aI H5 t (.tup [.str z,.ref lf,v])) t=some (.tup [.str z,.ref lf,v]):=ac
       have g6:=g5.same s6
       have ek6:=s6 _ _ (b5 _ _ ek4 TL1.pk.symm)
       have b46:K8 p H4 (aI H5 t (.tup [.str z,.ref lf,v])):=b5.same s6
       have hv6:=hv.kt (al s6)
       generalize aI H5 t (.tup [V.str z,.ref lf,v])=H6 at *
       have TL6:=TL4.but g6 b46
       have b16:K8 p H1 H6:=b4.trans b46
       refine ⟨lk,_,_,rfl,rfl,ek6,by lia,?_⟩
       have kt:K5 H6 (aI H6 lk (.lst (us++[.ref t]))):=fun b' xs eb=>by
        rw [aw]
        ·exact eb
        ·rintro rfl
         rw [ek6] at eb
         cases eb
       have k16:=dM TL1.tn.g b16
       have k46:=dM g4 b46
       refine ⟨_,_,_,_,us++[.ref t],IZ++[⟨z,fs,jd (zs.take A) ((zs.drop A).take b) fs dd,dd⟩],rfl,TL6.app ek6 _,?_,ac,?_,?_,?_⟩
       ·rw [aw nlk]
        exact b16 _ _ ekn1 (bG TL1.tn.g ekn1 (cu _))
       ·refine gq ⟨t,lf,v,rfl,flk,kt _ _ e6,⟨fu,?_,bS (fun _ _ h=>Lf.kt2 kt (Lf.kt2 k46 h)) hfu⟩,hv6.kt kt⟩ (bS (fun _ _ h=>Nq.kp (fun b' xs eb=>kt _ _ (k16 _ _ eb)) (fun x' us' nx fs' ex hp'=>by
         rw [aw nx]
         exact xR (lk:=lk) TL1.tn.g b16 x' us' nx fs' ex hp') h) Ja)
        rw [aw flk]
        exact b46 _ _ ef4 plf.symm
       ·rw [GK,hkm,GX,hz]
        rfl
       ·intro x hx'
        rcases GP.mp hx' with h|h
        ·exact hkk x h
        ·rw [G8.mp h]
         exact ⟨⟨j4,by lia,hfm⟩,hfs,hdo,rfl⟩
     ·rintro σ H1 ⟨v8,v9,v10,v11,us,IZ,rfl,TL1,ekn1,ek1,Ja,hkm,hkk⟩
      rw [aY,GV] at hkm
      have hln:IZ.length=nk:=by
       have:=congrArg List.length hkm
       rw [GC] at this
       lia
      have sp3:=CQ zs A b
      refine ⟨_,rfl,q d H1 ⟨W,cl,dp,zs.take A,(zs.drop A).take b,gL ((zs.drop A).take b) gt,IZ⟩ gt kv lp lm lk us (zs.drop (A+b)) TL1.tn.g TL1.tn.bb ⟨TL1.tn.ed,TL1.v1,TL1.v2,TL1.v3,TL1.v4,TL1.v5,TL1.v6,TL1.v7,TL1.ep,TL1.em,ek1,Ja⟩ ?_⟩
      refine ⟨hW4,hW24,hc4,hc64,hd8,?_,?_,?_,?_,?_,?_,?_,?_,rfl,?_,?_⟩
      ·show 1<=(zs.take A).length
       rw [GG];lia
      ·show (zs.take A).length<=4
       rw [GG];lia
      ·show ((zs.drop A).take b).length<=3
       rw [GG];lia
      ·rw [Hy];lia
      ·show (zs.take A++(zs.drop A).take b++zs.drop (A+b)).Nodup
       rw [sp3];exact hznd
      ·show ∀ z∈zs.take A++(zs.drop A).take b++zs.drop (A+b),cz z
       rw [sp3];exact hznf
      ·show (IZ.map Kn.name).Nodup
       rw [hkm];exact hknd
      ·intro x hx'
       exact hknf _ (by rw [<-hkm];exact G0.mpr ⟨x,hx',rfl⟩)
      ·intro g hg
       have:=hgt g hg
       show g < ((zs.drop A).take b).length
       rw [GG,Hy]
       lia
      ·refine ⟨c,k,?_,hkk⟩
       show sx IZ.length c k
       rw [hln]
       exact hmd
    ·have emx:(if (b:Int) > 1 then (b:Int) else 1)=((max 1 b:Nat):Int):=by split<;>lia
     refine ⟨_,rfl,_,rfl,IY,_,_,_,rfl,rfl,KW.of T5.emn,bQ,_,_,rfl,p,max 1 b,congrArg (fun x=>[V.ref p,V.int x]) emx,T5.g,by lia,by lia,fun gg H6 hgg g6 b6=>⟨aW,fun lgt ngt=>?_⟩⟩
     have s7:=ad (o:=.lst [.non,.int (gg:Nat)]) ngt
     have e7:(aI H6 lgt (.lst [.non,.int (gg:Nat)])) lgt=some (.lst [.non,.int (gg:Nat)]):=ac
     have plg:p≠lgt:=g6.ne ngt
     have T7:=(T5.but g6 b6).same s7
     have ep7:=s7 _ _ (b6 _ _ ep5 (bG T5.g ep5 (cu _)))
     have em7:=s7 _ _ (b6 _ _ em5 (bG T5.g em5 (cu _)))
     generalize aI H6 lgt (.lst [V.non,.int (gg:Nat)])=H7 at *
     have fin:∀ (H8:Hp) (gt:Option Nat),TN H p d IY ln A b zs kv5 H8->H8 lp=some (.lst (ai (zs.take A)))->H8 lm=some (.lst (ai ((zs.drop A).take b)))->(∀ g,gt=some g->g < b)->∃ d' lmn' ln' A' b' mode' zs' kv' W' cl' dp' lp' lm' gt',JT H p most [some (.ref p),some (.int most),some (.int (IX:Nat)),some (.ref d),some (.ref IY),some (.ref ln),none,none,none,none,none,none] (aI H8 d (.dK (bu kv5 (kS "gate") (gV gt)))) d' lmn' ln' A' b' mode' zs' kv' W' cl' dp' none none/\kv'.length<=6/\bh kv' (kS "places")=some (.ref lp')/\bh kv' (kS "marks")=some (.ref lm')/\bh kv' (kS "gate")=some (gV gt')/\(aI H8 d (.dK (bu kv5 (kS "gate") (gV gt)))) lp'=some (.lst (ai (zs'.take A')))/\(aI H8 d (.dK (bu kv5 (kS "gate") (gV gt)))) lm'=some (.lst (ai ((zs'.drop A').take b')))/\(∀ g,gt'=some g->g < b'):=by
      intro H8 gt T8 e1 e2 hg
      have l3:=i0 kv5 (kS "gate") (gV gt)
      exact ⟨d,IY,ln,A,b,IX,zs,_,W,cl,dp,lp,lm,gt,⟨rfl,T8.put _,hmo,hA1,hA4,hb3,hzl,hznd,hznf,hW4,hW24,hc4,hc64,hd8,by lia,by rw [cm (by decide +kernel)];exact j1,by rw [cm (by decide +kernel)];exact j2,by rw [cm (by decide +kernel)];exact j3⟩,by lia,by rw [cm (by decide +kernel)];exact j4,by rw [cm (by decide +kernel)];exact j5,by rw [iC],dU e1 T8.ed,dU e2 T8.ed,hg⟩
     refine ⟨_,rfl,IY,_,_,_,rfl,rfl,KW.of T7.emn,bQ,_,_,rfl,rfl,_,rfl,bU (fun h=>?_) (fun h=>?_)⟩
     ·have hb0:0 < b:=by have:=of_decide_eq_true h;lia
      refine ⟨_,rfl,p,2,rfl,T7.g,by decide,by decide,fun r H8 hr8 g8 b8=>⟨rfl,.inr ⟨_,rfl,?_⟩⟩⟩
      have T8:=T7.but g8 b8
      have ep8:=b8 _ _ ep7 (bG T7.g ep7 (cu _))
      have em8:=b8 _ _ em7 (bG T7.g em7 (cu _))
      have e8:=b8 _ _ e7 plg.symm
      by_cases h0:r=0
      ·subst h0
       refine ⟨lgt,_,1,_,rfl,rfl,KW.of e8,bQ,_,rfl,d,_,rfl,LA.k (k:=kS "gate") T8.ed (by lia),?_⟩
       exact fin H8 (some gg) T8 ep8 em8 fun g e=>by cases e;lia
      ·have hd0:decide (V.int (r:Nat)=V.int 0)=false:=decide_eq_false fun e=>by
        have:=V.int.inj e
        lia
       rw [hd0]
       refine ⟨lgt,_,0,_,rfl,rfl,KW.of e8,aT,_,rfl,d,_,rfl,LA.k (k:=kS "gate") T8.ed (by lia),?_⟩
       exact fin H8 none T8 ep8 em8 fun g e=>by cases e
     ·refine .inr ⟨_,rfl,?_⟩
      refine ⟨lgt,_,0,_,rfl,rfl,KW.of e7,aT,_,rfl,d,_,rfl,LA.k (k:=kS "gate") T7.ed (by lia),?_⟩
      exact fin H7 none T7 ep7 em7 fun g e=>by cases e
   ·refine ⟨_,rfl,_,rfl,IY,_,_,_,rfl,rfl,KW.of emn,aT,_,rfl,IY,_,_,_,rfl,rfl,KW.of emn,bQ,_,_,rfl,rfl,_,_,rfl,rfl,p,A+b+3,rfl,g9,by lia,fun ln Ha zs hzl hznd hznf ga ba nln eln=>?_⟩
    exact ⟨d,IY,ln,A,b,IX,zs,kv,W,cl,dp,⟨rfl,⟨ga,b09.trans ba,dH,pd,ba _ _ ed9 pd.symm,ba _ _ emn pmn.symm,eln⟩,hmo,hA1,hA4,hb3,hzl,hznd,hznf,hW4,hW24,hc4,hc64,hd8,by lia,w1,w2,w3⟩,lk⟩
  ·refine ⟨_,rfl,p,24,rfl,hp,by decide,by decide,fun r H1 hr3 g1 b1=>?_⟩
   refine ⟨_,_,rfl,?_⟩
   refine ⟨min r 3,congrArg (fun x=>[some (V.ref p),some (.int most),some (.int x),none,none,none,none,none,none,none,none,none]) ?_,by lia,g1,b1⟩
   show (if (r:Int) < 3 then (r:Int) else 3)=((min r 3:Nat):Int)
   split<;>lia
def dj (c:Nat):Prop:=(97<=c/\c<=122)\/(48<=c/\c<=57)
theorem oX (h:dj c):TK.dI c=false:=by
 unfold dj at h
 unfold TK.dI
 simp
 lia
theorem sB (h:dj c):TK.cZ c=false:=by
 unfold dj at h
 unfold TK.cZ
 simp
 omega
theorem kB (h:dj c) (r:List Nat):TK.fM (c::r)=0:=by
 have hs:=sB h
 unfold dj at h
 cases r with
 | nil=>rw [TK.dC,hs];rfl
 | cons d r=>
  rw [TK.cq,hs,if_neg (by simp;lia)]
  rfl
theorem tT:∀ t:List Nat,(∀ c∈t,dj c)->TK.run t=t.length
 | [],_=>rfl
 | c::r,h=>by
  have hc:=h c Gz
  rw [TK.cg,oX hc,kB hc,if_neg (by simp),tT r (fun d hd=>h d (GD _ hd)),GB]
  lia
theorem oY {t:List Nat} (Jb:t≠[]) (h:∀ c∈t,dj c):TK.Tok t:=by
 cases t with
 | nil=>exact absurd rfl Jb
 | cons c r=>
  have hc:=h c Gz
  have:=TK.kd (r:=r) (oX hc)
  have e:TK.one (c::r)=(c::r).length:=by
   unfold TK.one
   rw [if_pos (kB hc r),tT _ h]
  rw [e,GV] at this
  exact this
theorem gT {sep t:List Nat} {r:List (List Nat)} (h:r≠[]):TK.jn sep (t::r)=t++(sep++TK.jn sep r):=by
 cases r with
 | nil=>exact absurd rfl h
 | cons u r=>rfl
variable {sep:List Nat}
theorem sC:∀ {a b:List (List Nat)},a≠[]->b≠[]->TK.jn sep (a++b)=TK.jn sep a++(sep++TK.jn sep b)
 | [],_,h,_=>absurd rfl h
 | [t],b,_,hb=>gT hb
 | t::u::r,b,_,hb=>by
  show TK.jn sep (t::(u::r++b))=_
  rw [gT (by simp),sC (by simp) hb,gT (t:=t) (r:=u::r) (by simp)]
  simp
theorem tU {sep:List Nat}:∀ gs:List (List (List Nat)),(∀ g∈gs,g≠[])->TK.jn sep (gs.map (TK.jn sep))=TK.jn sep gs.flatten
 | [],_=>rfl
 | [g],_=>by simp [TK.jn]
 | g::h::r,hg=>by
  have ih:=tU (sep:=sep) (h::r) (fun x hx=>hg x (GD _ hx))
  have e:(g::h::r).flatten=g++(h::r).flatten:=IE
  rw [GO,gT (by simp),ih,e]
  have Jb:(h::r).flatten≠[]:=by
   have:=hg h (by simp)
   simp [this]
  rw [sC (hg g Gz) Jb]
theorem K4.len (h:K4 z):(cp z).length<=8:=by
 have:=h.2.2.1
 have e:z.length=(cp z).length:=by unfold cp;simp [Str.length]
 lia
theorem K4.pos (h:K4 z):1<=(cp z).length:=by
 have:=h.2.1
 have e:z.length=(cp z).length:=by unfold cp;simp [Str.length]
 lia
def qA:List (List Nat):=[[40],[41],[123],[125],[91],[93],[44],[59],[61],[43],[45],[38],[124],[94],[60,60],[62,62],[60]]
structure Lg (z:Str):Prop where
 tok:TK.Tok (cp z)
 le:(cp z).length<=8
 cl:(∀ c∈cp z,dj c)\/cp z∈qA
def tV:List Str:=["(",")","{","}","[","]",",",";","=","+","-","&","|","^","<<",">>","<"]
theorem Lg.name (h:K4 z):Lg z:=by
 refine ⟨oY (fun e=>?_) (fun c hc=>.inl (h.2.2.2 c hc)),h.len,.inl (fun c hc=>.inl (h.2.2.2 c hc))⟩
 have:=h.pos
 rw [e] at this
 simp at this
theorem Lg.num (h:n < 100000000):Lg (toString (n:Int):Str):=by
 have e:cp (toString (n:Int):Str)=dg n:=by rw [gm,fh]
 refine ⟨?_,?_,.inl (fun c hc=>.inr (jG n c (by rw [e] at hc;exact hc)))⟩
 ·rw [e]
  refine oY (fun e=>?_) (fun c hc=>.inr (jG n c hc))
  have:=(gl n).1
  rw [e] at this
  simp at this
 ·rw [e]
  exact (gl n).2 8 (by decide) h
def Lu:List Str:=["word","cells","depth","places","marks","gate","kind","next","place","mark","number","row","set","if","else","top","go","call","back","stop","fault"]
theorem xS:(Lu.all fun z=>decide (cp z≠[]) && decide ((cp z).length<=8) && (cp z).all fun c=>decide (97<=c) && decide (c<=122))=true:=by decide +kernel
theorem Lg.word (h:z∈Lu):Lg z:=by
 have:=Ht.mp xS z h
 simp only [HU,decide_eq_true_eq,Ht] at this
 exact ⟨oY this.1.1 (fun c hc=>.inl (this.2 c hc)),this.1.2,.inl (fun c hc=>.inl (this.2 c hc))⟩
theorem FT (c:Nat) (h:TK.dI c=false) (h1:TK.cZ c=true):TK.Tok [c]:=by
 have:=TK.kd (c:=c) (r:=[]) h
 have e:TK.one [c]=1:=by
  unfold TK.one
  rw [TK.dC,if_pos h1]
  rfl
 rw [e] at this
 exact this
theorem Lg.sign (h:z∈tV):Lg z:=by
 have e:tV=([[40],[41],[123],[125],[91],[93],[44],[59],[61],[43],[45],[38],[124],[94],[60,60],[62,62],[60]]:List (List Nat)).map S:=by decide +kernel
 rw [e] at h
 obtain ⟨t,ht,rfl⟩:=G0.mp h
 have e2:TK.Tok [60,60]:=by
  have:=TK.kd (c:=60) (r:=[60]) rfl
  exact this
 have e3:TK.Tok [62,62]:=by
  have:=TK.kd (c:=62) (r:=[62]) rfl
  exact this
 simp only [GF,GH,or_false] at ht
 rcases ht with rfl|rfl|rfl|rfl|rfl|rfl|rfl|rfl|rfl|rfl|rfl|rfl|rfl|rfl|rfl|rfl|rfl
 all_goals first
  | exact ⟨e2,by rw [fh];decide,.inr (by rw [fh];decide)⟩
  | exact ⟨e3,by rw [fh];decide,.inr (by rw [fh];decide)⟩
  | exact ⟨FT _ rfl rfl,by rw [fh];decide,.inr (by rw [fh];decide)⟩
theorem qB (h:o∈La):o∈tV:=by
 have:∀ z∈La,z∈tV:=by decide +kernel
 exact this o h
theorem FU {n w:Nat} (hw:w<=24) (h:n < 2 ^ w):n < 100000000:=by
 have:=Hk (n:=2) (by decide) hw
 have e:2 ^ 24=16777216:=by decide
 lia
theorem eM {w:Nat} (hw:w<=24):∀ {m:Nat} {x:Ex},ca w m x->∀ z∈bP x,Lg z
 | 0,.num n,h,z,hz=>by rw [G8.mp hz];exact .num (FU hw h)
 | _+1,.num n,h,z,hz=>by rw [G8.mp hz];exact .num (FU hw h)
 | 0,.nm y,h,z,hz=>by rw [G8.mp hz];exact .name h
 | _+1,.nm y,h,z,hz=>by rw [G8.mp hz];exact .name h
 | 0,.cell _,h,_,_=>absurd h (by simp [ca])
 | m+1,.cell e,h,z,hz=>by
  simp only [bP,GF,GP,GH,or_false] at hz
  rcases hz with rfl|hz|rfl
  ·exact .sign (by decide +kernel)
  ·exact eM hw (m:=m) (x:=e) h z hz
  ·exact .sign (by decide +kernel)
 | 0,.two _ _ _,h,_,_=>absurd h (by simp [ca])
 | m+1,.two o x y,h,z,hz=>by
  simp only [bP,GF,GP,GH,or_false] at hz
  rcases hz with rfl|hz|rfl|hz|rfl
  ·exact .sign (by decide +kernel)
  ·exact eM hw (m:=m) (x:=x) h.2.1 z hz
  ·exact .sign (qB h.1)
  ·exact eM hw (m:=m) (x:=y) h.2.2 z hz
  ·exact .sign (by decide +kernel)
theorem A6 {w:Nat} (hw:w<=24) {g:Gs} (h:fG w g):∀ z∈gW g,Lg z:=by
 intro z hz
 cases g with
 | cell a e=>
  simp only [gW,GF,GP,GH,or_false] at hz
  rcases hz with rfl|hz|rfl|rfl|hz|rfl
  ·exact .sign (by decide +kernel)
  ·exact eM hw h.1 z hz
  ·exact .sign (by decide +kernel)
  ·exact .sign (by decide +kernel)
  ·exact eM hw h.2 z hz
  ·exact .sign (by decide +kernel)
 | nm y e=>
  simp only [gW,GF,GP,GH,or_false] at hz
  rcases hz with rfl|rfl|hz|rfl
  ·exact .name h.1
  ·exact .sign (by decide +kernel)
  ·exact eM hw h.2 z hz
  ·exact .sign (by decide +kernel)
theorem A7 {e:En} (h:lJ e):∀ z∈fH e,Lg z:=by
 intro z hz
 cases e with
 | w0 s=>
  rw [G8.mp hz]
  have:∀ y∈([("next":Str),("back":Str),("stop":Str)]:List Str),y∈Lu:=by decide +kernel
  exact .word (this _ h)
 | w1 s y=>
  simp only [fH,GF,GH,or_false] at hz
  rcases hz with rfl|rfl
  ·have:∀ y∈([("go":Str),("call":Str),("fault":Str)]:List Str),y∈Lu:=by decide +kernel
   exact .word (this _ h.1)
  ·exact .name h.2.1
theorem tW {w:Nat} (hw:w<=24):∀ {s:List Gs},(∀ g∈s,fG w g)->∀ z∈bE s,Lg z
 | [],_,z,hz=>by cases hz
 | g::r,h,z,hz=>by
  simp only [bE,GF,GP] at hz
  rcases hz with rfl|hz|hz
  ·exact .word (by decide +kernel)
  ·exact A6 hw (h g Gz) z hz
  ·exact tW hw (fun x hx=>h x (GD _ hx)) z hz
theorem mZ {w:Nat} (hw:w<=24):∀ {m:Nat} {b:Bd},dq w m b->∀ z∈cV b,Lg z
 | m,.leaf s e,h,z,hz=>by
  have h2:∀ g∈s,fG w g:=by cases m<;>exact h.2.1
  have h3:lJ e:=by cases m<;>exact h.2.2.2
  simp only [cV,GF,GP,GH,or_false] at hz
  rcases hz with rfl|hz|hz|rfl
  ·exact .sign (by decide +kernel)
  ·exact tW hw h2 z hz
  ·exact A7 h3 z hz
  ·exact .sign (by decide +kernel)
 | 0,.ite _ _ _ _,h,_,_=>absurd h (by simp [dq])
 | m+1,.ite t y a b,h,z,hz=>by
  simp only [cV,GF,GP,GH,or_false] at hz
  rcases hz with rfl|rfl|hz|hz|rfl|hz|rfl
  ·exact .sign (by decide +kernel)
  ·exact .word (by decide +kernel)
  ·cases t with
   | true=>
    simp at hz
    rcases hz with rfl|rfl
    ·exact .word (by decide +kernel)
    ·exact .name h.1
   | false=>
    simp at hz
    subst hz
    exact .name h.1
  ·exact mZ hw (m:=m) h.2.1 z hz
  ·exact .word (by decide +kernel)
  ·exact mZ hw (m:=m) h.2.2 z hz
  ·exact .sign (by decide +kernel)
theorem kC {w:Nat}:∀ {m:Nat} {x:Ex},ca w m x->ca w (m+1) x
 | 0,.num _,h=>h
 | _+1,.num _,h=>h
 | 0,.nm _,h=>h
 | _+1,.nm _,h=>h
 | 0,.cell _,h=>absurd h (by simp [ca])
 | m+1,.cell e,h=>kC (m:=m) (x:=e) h
 | 0,.two _ _ _,h=>absurd h (by simp [ca])
 | m+1,.two o x y,h=>⟨h.1,kC (m:=m) (x:=x) h.2.1,kC (m:=m) (x:=y) h.2.2⟩
theorem kD {w m n:Nat} {x:Ex} (h:ca w m x) (hn:m<=n):ca w n x:=by
 induction hn with
 | refl=>exact h
 | step _ ih=>exact kC ih
structure EC (ps ms:List Str) (fs:List (Str×Str)):Prop where
 p:∀ z∈ps,cz z
 m:∀ z∈ms,cz z
 f:∀ f∈fs,cz f.1
theorem eY {fs:List (Str×Str)} (h:fs[j]?=some (z,st)):xQ fs j=z:=by
 unfold xQ
 rw [Hg,h]
 rfl
theorem cG {L:List Str} {fs:List (Str×Str)} {b:Bool} (hL:∀ z∈L,cz z) (hf:∀ f∈fs,cz f.1) (h:cw L st fs b n):cz (eI L fs b n):=by
 unfold cw at h
 unfold eI
 cases b with
 | true=>
  rw [if_pos rfl] at h ⊢
  obtain ⟨z,hz⟩:=h
  rw [eY hz]
  exact hf _ (GM hz)
 | false=>
  rw [if_neg (by decide)] at h ⊢
  rw [Hg,GJ h]
  exact hL _ (Hv h)
theorem cY {fs:List (Str×Str)} (G:EC ps ms fs):∀ {m:Nat} {e:Ed},aX W ps ms fs m e->ca W m (df ps ms fs e)
 | 0,.num _,h=>by simpa [aX,ca,df] using h
 | _+1,.num _,h=>by simpa [aX,ca,df] using h
 | m,.fld j,h=>by
  have h':∃ z:Str,fs[j]?=some (z,("number":Str)):=by cases m<;>simpa [aX] using h
  obtain ⟨z,hz⟩:=h'
  have:K4 (xQ fs j):=by rw [eY hz];exact (G.f _ (GM hz)).1
  cases m<;>exact this
 | m,.pl b n,h=>by
  have h':cw ps "place" fs b n:=by cases m<;>simpa [aX] using h
  have:=(cG G.p G.f h').1
  cases m<;>exact this
 | m,.mk b n,h=>by
  have h':cw ms "mark" fs b n:=by cases m<;>simpa [aX] using h
  have:=(cG G.m G.f h').1
  cases m<;>exact this
 | 0,.cell _,h=>absurd h (by simp [aX])
 | m+1,.cell e,h=>cY G (m:=m) (e:=e) (by simpa [aX] using h)
 | 0,.two _ _ _,h=>absurd h (by simp [aX])
 | m+1,.two o x y,h=>by
  have h':o∈La/\aX W ps ms fs m x/\aX W ps ms fs m y:=by simpa [aX] using h
  exact ⟨h'.1,cY G (m:=m) h'.2.1,cY G (m:=m) h'.2.2⟩
theorem A8 {fs:List (Str×Str)} (G:EC ps ms fs) (hm:m<=3) (h:eE W ps ms fs m g):fG W (c9 ps ms fs g):=by
 cases g with
 | cell a e=>exact ⟨kD (cY G h.1) (by lia),kD (cY G h.2) hm⟩
 | pl b n e=>exact ⟨(cG G.p G.f h.1).1,kD (cY G h.2) hm⟩
 | mk b n e=>exact ⟨(cG G.m G.f h.1).1,kD (cY G h.2) hm⟩
theorem A9 {fs:List (Str×Str)} (hf:∀ f∈fs,cz f.1) {e:Ee} (h:lZ fs e):lJ (fQ fs e):=by
 cases e with
 | w0 s=>exact h
 | fault z=>exact ⟨by decide +kernel,h.1,fun _=>h.2⟩
 | go s j=>
  obtain ⟨h1,z,hz⟩:=h
  refine ⟨?_,?_,fun e=>?_⟩
  ·have:∀ y∈(["go","call"]:List Str),y∈([("go":Str),("call":Str),("fault":Str)]:List Str):=by decide +kernel
   exact this s h1
  ·rw [eY hz];exact (hf _ (GM hz)).1
  ·rw [eY hz];exact (hf _ (GM hz)).2
theorem CS (ps ms:List Str) (fs:List (Str×Str)) (g:Sd):(c9 ps ms fs g).isCell=g.isCell:=by cases g<;>rfl
theorem qC {α:Type} {f:α->Bool}:∀ {l:List α},(l.filter f).length<=1->∀ i j:Nat,∀ g h,l[i]?=some g->l[j]?=some h->f g=true->f h=true->i=j
 | [],_,i,j,g,h,e,_,_,_=>by simp at e
 | x::r,hl,0,0,_,_,_,_,_,_=>rfl
 | x::r,hl,0,j+1,g,h,e1,e2,h1,h2=>by
  simp at e1 e2
  subst e1
  rw [HN h1,GB] at hl
  have:h∈r.filter f:=Ih.mpr ⟨GM e2,h2⟩
  have:=List.length_pos_of_mem this
  lia
 | x::r,hl,i+1,0,g,h,e1,e2,h1,h2=>by
  simp at e1 e2
  subst e2
  rw [HN h2,GB] at hl
  have:g∈r.filter f:=Ih.mpr ⟨GM e1,h1⟩
  have:=List.length_pos_of_mem this
  lia
 | x::r,hl,i+1,j+1,g,h,e1,e2,h1,h2=>by
  have hl':(r.filter f).length<=1:=by
   by_cases hx:f x=true
   ·rw [HN hx,GB] at hl;lia
   ·rw [Iy hx] at hl;exact hl
  have:=qC hl' i j g h (by simpa using e1) (by simpa using e2) h1 h2
  lia
theorem m8 {fs:List (Str×Str)} (G:EC ps ms fs) (hm:m<=3):∀ {c n:Nat} {d:Dd},eG W ps ms fs m c d->c<=n->dq W n (jd ps ms fs d)
 | c,n,.leaf s e,h,_=>by
  have h':s.length<=4/\(s.filter Sd.isCell).length<=1/\(∀ g∈s,eE W ps ms fs m g)/\lZ fs e:=by cases c<;>exact h
  have hb:(s.map (c9 ps ms fs)).length<=4/\(∀ g∈s.map (c9 ps ms fs),fG W g)/\(∀ i j:Nat,∀ g h,(s.map (c9 ps ms fs))[i]?=some g->(s.map (c9 ps ms fs))[j]?=some h->g.isCell=true->h.isCell=true->i=j)/\lJ (fQ fs e):=by
   refine ⟨by rw [GC];exact h'.1,fun g hg=>?_,fun i j g h e1 e2 h1 h2=>?_,A9 G.f h'.2.2.2⟩
   ·obtain ⟨g0,hg0,rfl⟩:=G0.mp hg
    exact A8 G hm (h'.2.2.1 g0 hg0)
   ·rw [GY] at e1 e2
    cases f1:s[i]? with
    | none=>rw [f1] at e1;cases e1
    | some g1=>
     cases f2:s[j]? with
     | none=>rw [f2] at e2;cases e2
     | some g2=>
      rw [f1] at e1
      rw [f2] at e2
      cases e1
      cases e2
      rw [CS] at h1 h2
      exact qC h'.2.1 i j g1 g2 f1 f2 h1 h2
  cases n<;>exact hb
 | 0,_,.ite _ _ _,h,_=>absurd h (by simp [eG])
 | c+1,0,.ite _ _ _,_,hc=>by lia
 | c+1,n+1,.ite t y z,h,hc=>by
  obtain ⟨h1,h2,h3⟩:=h
  refine ⟨?_,m8 G hm (c:=c) (n:=n) h2 (by lia),m8 G hm (c:=c) (n:=n) h3 (by lia)⟩
  cases t with
  | top b n=>exact (cG G.p G.f h1).1
  | pl b n=>exact (cG G.p G.f h1).1
  | mk b n=>exact (cG G.m G.f h1).1
theorem cQ (z:Str):au [z]=cp z:=rfl
theorem bB {r:List Str} (h:r≠[]):au (z::r)=cp z++(32::au r):=by
 unfold au
 rw [GO,gT (by simpa using h)]
 rfl
theorem dF {a b:List Str} (ha:a≠[]) (hb:b≠[]):au (a++b)=au a++(32::au b):=by
 unfold au
 rw [GK,sC (by simpa using ha) (by simpa using hb)]
 rfl
theorem fq (gs:List (List Str)) (h:∀ g∈gs,g≠[]):TK.jn [32] (gs.map au)=au gs.flatten:=by
 have:=tU (sep:=[32]) (gs.map fun g=>g.map cp) (fun g hg=>by
  obtain ⟨g0,hg0,rfl⟩:=G0.mp hg
  simpa using h g0 hg0)
 unfold au
 rw [Hz] at this
 rw [List.map_flatten]
 exact this
theorem bC (h:∀ z∈zs,Lg z):(au zs).length<=9*zs.length:=by
 have h3:=iB 8 (zs.map cp) fun t ht=>by
  obtain ⟨z,hz,rfl⟩:=G0.mp ht
  exact (h z hz).le
 have h4:=sj [32] (zs.map cp)
 rw [GC] at *
 simp only [GB,GL] at *
 unfold au
 lia
theorem ma (x:Ex):bP x≠[]:=by cases x<;>simp [bP]
theorem z6:(("[ ":Str)=S [91,32])/\((" ]":Str)=S [32,93]):=by decide +kernel
theorem nh (l:List Str) (h:l≠[]):[91,32]++au l++[32,93]=au (("[":Str)::(l++[("]":Str)])):=by
 rw [bB (by simp),dF h (by simp),cQ]
 have e1:cp ("[":Str)=[91]:=by decide +kernel
 have e2:cp ("]":Str)=[93]:=by decide +kernel
 rw [e1,e2]
 simp
theorem xT (o:Str) (a b:List Str) (ha:a≠[]) (hb:b≠[]):TK.jn [32] [cp "(",au a,cp o,au b,cp ")"]=au (("(":Str)::(a++o::(b++[(")":Str)]))):=by
 have:=fq [[("(":Str)],a,[o],b,[(")":Str)]] (by
  intro g hg
  simp only [GF,GH,or_false] at hg
  rcases hg with rfl|rfl|rfl|rfl|rfl
  ·simp
  ·exact ha
  ·simp
  ·exact hb
  ·simp)
 have e:([[("(":Str)],a,[o],b,[(")":Str)]]:List (List Str)).flatten=(("(":Str)::(a++o::(b++[(")":Str)]))):=by simp
 rw [e] at this
 exact this
structure Tx (H:Hp) (d lf:Addr) (W:Nat) (ps ms:List Str) (fs:List (Str×Str)):Prop where
 t:M9 H d W ps ms
 f:MV H lf fs
 w24:W<=24
 G:EC ps ms fs
theorem Tx.same {H H':Hp} {fs:List (Str×Str)} (h:Tx H d lf W ps ms fs) (s:KO H H'):Tx H' d lf W ps ms fs:=⟨h.t.same s,h.f.same s,h.w24,h.G⟩
inductive tX (vs:List V) (H:Hp) (Q:VK) (Z3:XK):Prop
 | mk (v l lf L fs st:_) (b:Bool) (n:Nat):vs=[v,.ref l,.ref lf]->MG H b n v->H l=some (.lst (ai L))->MV H lf fs->cw L st fs b n->Q (.str (eI L fs b n)) H->tX vs H Q Z3
inductive xU (m:Nat) (vs:List V) (H:Hp) (Q:VK):Prop
 | mk (v d lf W ps ms fs e:_):vs=[v,.ref d,.ref lf]->LY H e v->Tx H d lf W ps ms fs->m<=3->aX W ps ms fs m e->(∀ H',KO H H'->Q (.str (S (au (bP (df ps ms fs e))))) H')->xU m vs H Q
def tY :Nat->Sp
 | 0=>jX
 | m+1=>fun vs H Q _=>xU m vs H Q
theorem xV {fs:List (Str×Str)} (h:MV H lf fs) (e:fs[n]?=some (z,st)):∃ us pf,H lf=some (.lst us)/\us[n]?=some (.ref pf)/\H pf=some (.tup [.str z,.str st]):=by
 obtain ⟨us,e1,hp⟩:=h
 obtain ⟨u,hu,pf,rfl,hpf⟩:=qv hp e
 exact ⟨us,pf,e1,hu,hpf⟩
theorem ED:ay ["_law_sel_here","_law_names_here","_law_fields"] ["_law_sel_here","_law_names_here","_law_fields"] (aj lE):=cH (by decide +kernel)
theorem CU (F:K7 K "_law_sel_text" "_law_sel_text" lE f fd):KU P w K mg base bY 1 f fd ["_law_sel_here","_law_names_here","_law_fields"] tX:=by
 have ZZ:=ED
 walk_at "o"
 ·obtain ⟨v,l,lf,L,fs,st,b,n,rfl,⟨sq,rfl,hq⟩,hl,hF,hS,q⟩:=h
  refine ⟨_,ae (aM (ak be (aq ax (pv 0) ag (fun _ _=>rfl)) af (av _)) (ah (ao (aq aL (pv 1) (aq ax (pv 0) ag (fun _ _=>rfl)) (fun _ _=>rfl)))) aH)
   (ah (ao (aq ax (aq aL (pv 2) (aq ax (pv 0) ag (fun _ _=>rfl)) (fun _ _=>rfl)) ag (fun _ _=>rfl)))),?_⟩
  refine ⟨_,rfl,sq,_,_,_,rfl,rfl,KP.of hq,aT,rfl,_,rfl,?_⟩
  unfold cw at hS
  unfold eI at q
  cases b with
  | true=>
   rw [if_pos rfl] at hS q
   obtain ⟨z,hz⟩:=hS
   rw [eY hz] at q
   obtain ⟨us,pf,e1,e2,e3⟩:=xV hF hz
   refine aZ (by decide +kernel) ⟨_,rfl,_,rfl,sq,_,_,_,rfl,rfl,KP.of hq,bQ,lf,_,_,_,rfl,rfl,KW.of e1,bf e2,pf,_,_,_,rfl,rfl,KP.of e3,aT,q⟩
  | false=>
   rw [if_neg (by decide)] at hS q
   rw [Hg,GJ hS] at q
   refine br (decide_eq_true rfl) ⟨_,rfl,_,rfl,sq,_,_,_,rfl,rfl,KP.of hq,bQ,l,_,_,_,rfl,rfl,KW.of hl,bf (v:=.str L[n]) (by unfold ai;rw [GY,GJ hS];rfl),q⟩
theorem EE:ay ["_law_e","_law_table_here","_law_fields"] ["_law_e","_law_table_here","_law_fields"] (aj jB):=cH (by decide +kernel)
theorem z7:∀ o∈La,o≠("number":Str)/\o≠("field":Str)/\o≠("place":Str)/\o≠("mark":Str)/\o≠("cell":Str):=by decide +kernel
theorem oZ (F:K7 K "_law_expr_text" "_law_expr_text" jB f fd) (B:Bl mg) (ST:Fn P w K mg base "_law_sel_text" 1 ["_law_sel_here","_law_names_here","_law_fields"] tX) (EX:Fn P w K mg base "_law_expr_text" n ["_law_e","_law_table_here","_law_fields"] (tY m)) (hn:1<=n):KU P w K mg base bY (n+1) f fd ["_law_e","_law_table_here","_law_fields"] (tY (m+1)):=by
 have ZZ:=EE
 walk_at "o"
 ·obtain ⟨v,d,lf,W,ps,ms,fs,e,rfl,hV,hX,hm3,hE,q⟩:=h
  have hu:=dP hr
  have IS:KY 1 _:=hr.mono (by lia)
  have sz:(100000:Nat)<=sizeLine:=by decide
  have hxo:=cY hX.G hE
  have hln:=bC (eM hX.w24 hxo)
  have hxl:=cJ hxo
  have h32:2 ^ (m+2)<=32:=Hl (Hk (by decide) (by lia:m+2<=5)) (by decide)
  refine ⟨_,ae (aM (ak be (aq ax (pv 0) ag (fun _ _=>rfl)) af (av _)) (ah (ao (aU ce (by rfl) B.str cb (aa (aq ax (pv 0) ag (fun _ _=>rfl)) ab)))) aH)
   (ae (aM (ak be (aq ax (pv 0) ag (fun _ _=>rfl)) af (av _)) (ah (ao (aq ax (aq aL (pv 2) (aq ax (pv 0) ag (fun _ _=>rfl)) (fun _ _=>rfl)) ag (fun _ _=>rfl)))) aH)
   (ae (aM (PW.pt (fL (ak be (aq ax (pv 0) ag (fun _ _=>rfl)) af (av _)) (dL (ak be (aq ax (pv 0) ag (fun _ _=>rfl)) af (av _)))))
    (ah (ao (am ST IS rfl (aa (aq ax (pv 0) ag (fun _ _=>rfl)) (aa (bD hu (pv 1) (ar aJ (aq ax (pv 0) ag (fun _ _=>rfl)) af) (fun _ _=>rfl)) (aa (pv 2) ab)))))) aH)
   (ae (aM (ak be (aq ax (pv 0) ag (fun _ _=>rfl)) af (av _)) (ah (ao (ar aJ (ar aJ af (am EX hr rfl (aa (aq ax (pv 0) ag (fun _ _=>rfl)) (aa (pv 1) (aa (pv 2) ab))))) af))) aH)
   (ah (ao (b9 G9 Hn Hm dc af (aa (aB (aa af (aa (am EX hr rfl (aa (aq ax (pv 0) ag (fun _ _=>rfl)) (aa (pv 1) (aa (pv 2) ab)))) (aa (aq ax (pv 0) ag (fun _ _=>rfl)) (aa (am EX hr rfl (aa (aq ax (pv 0) ag (fun _ _=>rfl)) (aa (pv 1) (aa (pv 2) ab)))) (aa af ab)))))) ab))))))),?_⟩
  have selc:∀ (st:Str) (p:Addr) (u:V) (b:Bool) (i:Nat),(st="place"\/st="mark")->H p=some (.tup [.str st,u])->MG H b i u->cw (fm ps ms st) st fs b i->(∀ H',KO H H'->Q (.str (eI (fm ps ms st) fs b i)) H')->∃ l,Li H d (.str (st++"s")) (some (.ref l))/\H l=some (.lst (ai (fm ps ms st))):=fun st p u b i hst _ _ _ _=>iD hX.t hst
  cases e with
  | num i=>
   obtain ⟨p,rfl,hp⟩:=hV
   have hi:i < 2 ^ W:=by cases m<;>simpa [aX] using hE
   have hi25:i < 2 ^ 25:=by have:=FU hX.w24 hi;have:2 ^ W<=2 ^ 24:=Hk (by decide) hX.w24;lia
   refine ⟨_,rfl,p,_,_,_,rfl,rfl,KP.of hp,aT,rfl,_,rfl,br (decide_eq_true rfl) ?_⟩
   refine ⟨_,rfl,p,_,_,_,rfl,rfl,KP.of hp,bQ,_,rfl,di hi25,?_⟩
   have:=q H (KO.refl _)
   have e1:au (bP (df ps ms fs (.num i)))=cp (toString (i:Int):Str):=rfl
   rw [e1,eX] at this
   exact this
  | fld j=>
   obtain ⟨p,rfl,hp⟩:=hV
   have h':∃ z:Str,fs[j]?=some (z,("number":Str)):=by cases m<;>simpa [aX] using hE
   obtain ⟨z,hz⟩:=h'
   obtain ⟨us,pf,e1,e2,e3⟩:=xV hX.f hz
   refine ⟨_,rfl,p,_,_,_,rfl,rfl,KP.of hp,aT,rfl,_,rfl,aZ (by decide +kernel) ?_⟩
   refine ⟨_,rfl,p,_,_,_,rfl,rfl,KP.of hp,aT,rfl,_,rfl,br (decide_eq_true rfl) ?_⟩
   refine ⟨_,rfl,_,rfl,p,_,_,_,rfl,rfl,KP.of hp,bQ,lf,_,_,_,rfl,rfl,KW.of e1,bf e2,pf,_,_,_,rfl,rfl,KP.of e3,aT,?_⟩
   have:=q H (KO.refl _)
   have e4:au (bP (df ps ms fs (.fld j)))=cp (xQ fs j):=rfl
   rw [e4,eX,eY hz] at this
   exact this
  | pl b i=>
   obtain ⟨p,u,rfl,hp,hs⟩:=hV
   have h':cw ps "place" fs b i:=by cases m<;>simpa [aX] using hE
   refine ⟨_,rfl,p,_,_,_,rfl,rfl,KP.of hp,aT,rfl,_,rfl,aZ (by decide +kernel) ?_⟩
   refine ⟨_,rfl,p,_,_,_,rfl,rfl,KP.of hp,aT,rfl,_,rfl,aZ (by decide +kernel) ?_⟩
   refine ⟨_,rfl,p,_,_,_,rfl,rfl,KP.of hp,aT,rfl,_,rfl,br (decide_eq_true rfl) (pP ?_)⟩
   obtain ⟨l,dg,el⟩:=iD hX.t (.inl rfl)
   refine ⟨_,rfl,p,_,_,_,rfl,rfl,KP.of hp,bQ,_,rfl,_,rfl,p,_,_,_,rfl,rfl,KP.of hp,aT,_,_,rfl,rfl,by decide +kernel,d,_,rfl,dg,_,rfl,u,l,lf,_,fs,"place",b,i,rfl,hs,el,hX.f,by rw [cP];exact h',?_⟩
   have:=q H (KO.refl _)
   have e4:au (bP (df ps ms fs (.pl b i)))=cp (eI ps fs b i):=rfl
   rw [e4,eX] at this
   rw [cP]
   exact this
  | mk b i=>
   obtain ⟨p,u,rfl,hp,hs⟩:=hV
   have h':cw ms "mark" fs b i:=by cases m<;>simpa [aX] using hE
   refine ⟨_,rfl,p,_,_,_,rfl,rfl,KP.of hp,aT,rfl,_,rfl,aZ (by decide +kernel) ?_⟩
   refine ⟨_,rfl,p,_,_,_,rfl,rfl,KP.of hp,aT,rfl,_,rfl,aZ (by decide +kernel) ?_⟩
   refine ⟨_,rfl,p,_,_,_,rfl,rfl,KP.of hp,aT,rfl,_,rfl,aZ (by decide +kernel) ?_⟩
   refine ⟨_,rfl,p,_,_,_,rfl,rfl,KP.of hp,aT,rfl,_,rfl,br (decide_eq_true rfl) ?_⟩
   obtain ⟨l,dg,el⟩:=iD hX.t (.inr rfl)
   refine ⟨_,rfl,p,_,_,_,rfl,rfl,KP.of hp,bQ,_,rfl,_,rfl,p,_,_,_,rfl,rfl,KP.of hp,aT,_,_,rfl,rfl,by decide +kernel,d,_,rfl,dg,_,rfl,u,l,lf,_,fs,"mark",b,i,rfl,hs,el,hX.f,by rw [de];exact h',?_⟩
   have:=q H (KO.refl _)
   have e4:au (bP (df ps ms fs (.mk b i)))=cp (eI ms fs b i):=rfl
   rw [e4,eX] at this
   rw [de]
   exact this
  | cell e=>
   obtain ⟨p,u,rfl,hp,hu'⟩:=hV
   cases m with
   | zero=>simp [aX] at hE
   | succ m=>
    have hE':aX W ps ms fs m e:=by simpa [aX] using hE
    have hl1:=bC (eM hX.w24 (cY hX.G hE'))
    have hl2:=cJ (cY hX.G hE')
    have h16:2 ^ (m+2)<=32:=Hl (Hk (by decide) (by lia:m+2<=5)) (by decide)
    refine ⟨_,rfl,p,_,_,_,rfl,rfl,KP.of hp,aT,rfl,_,rfl,aZ (by decide +kernel) ?_⟩
    refine ⟨_,rfl,p,_,_,_,rfl,rfl,KP.of hp,aT,rfl,_,rfl,aZ (by decide +kernel) ?_⟩
    refine ⟨_,rfl,p,_,_,_,rfl,rfl,KP.of hp,aT,rfl,_,rfl,aZ (by decide +kernel) ?_⟩
    refine ⟨_,rfl,p,_,_,_,rfl,rfl,KP.of hp,aT,rfl,_,rfl,aZ (by decide +kernel) ?_⟩
    refine ⟨_,rfl,p,_,_,_,rfl,rfl,KP.of hp,aT,rfl,_,rfl,br (decide_eq_true rfl) ?_⟩
    refine ⟨_,rfl,p,_,_,_,rfl,rfl,KP.of hp,bQ,_,rfl,_,rfl,u,d,lf,W,ps,ms,fs,e,rfl,hu',hX,by lia,hE',fun H1 s1=>?_⟩
    refine ⟨_,_,congrArg V.str z6.1,rfl,by rw [aG,aG];simp;lia,?_⟩
    rw [bA]
    refine ⟨_,_,rfl,congrArg V.str z6.2,by rw [aG,aG];simp;lia,?_⟩
    rw [bA]
    have:=q H1 s1
    have e4:au (bP (df ps ms fs (.cell e)))=[91,32]++au (bP (df ps ms fs e))++[32,93]:=(nh _ (ma _)).symm
    rw [e4] at this
    exact this
  | two o x y=>
   obtain ⟨p,u,t,rfl,hp,hux,hty⟩:=hV
   cases m with
   | zero=>simp [aX] at hE
   | succ m=>
    have hE':o∈La/\aX W ps ms fs m x/\aX W ps ms fs m y:=by simpa [aX] using hE
    obtain ⟨o1,o2,o3,o4,o5⟩:=z7 o hE'.1
    have ne:∀ z:Str,o≠z->decide (V.str o=V.str z)=false:=fun z h=>decide_eq_false fun e=>h (V.str.inj e)
    have hl1:=bC (eM hX.w24 (cY hX.G hE'.2.1))
    have hl2:=cJ (cY hX.G hE'.2.1)
    have hl3:=bC (eM hX.w24 (cY hX.G hE'.2.2))
    have hl4:=cJ (cY hX.G hE'.2.2)
    have h16:2 ^ (m+2)<=32:=Hl (Hk (by decide) (by lia:m+2<=5)) (by decide)
    have hlo:(cp o).length<=8:=(Lg.sign (qB hE'.1)).le
    refine ⟨_,rfl,p,_,_,_,rfl,rfl,KP.of hp,aT,rfl,_,rfl,aZ (ne _ o1) ?_⟩
    refine ⟨_,rfl,p,_,_,_,rfl,rfl,KP.of hp,aT,rfl,_,rfl,aZ (ne _ o2) ?_⟩
    refine ⟨_,rfl,p,_,_,_,rfl,rfl,KP.of hp,aT,rfl,_,rfl,aZ (ne _ o3) ?_⟩
    refine ⟨_,rfl,p,_,_,_,rfl,rfl,KP.of hp,aT,rfl,_,rfl,aZ (ne _ o4) ?_⟩
    refine ⟨_,rfl,p,_,_,_,rfl,rfl,KP.of hp,aT,rfl,_,rfl,aZ (ne _ o5) ?_⟩
    refine ⟨rfl,_,rfl,p,_,_,_,rfl,rfl,KP.of hp,bQ,_,rfl,_,rfl,u,d,lf,W,ps,ms,fs,x,rfl,hux,hX,by lia,hE'.2.1,fun H1 s1=>?_⟩
    refine ⟨_,rfl,p,_,_,_,rfl,rfl,KP.of (s1 _ _ hp),aT,?_⟩
    refine ⟨_,rfl,p,_,_,_,rfl,rfl,KP.of (s1 _ _ hp),gp,_,rfl,_,rfl,t,d,lf,W,ps,ms,fs,y,rfl,hty.kt (al s1),hX.same s1,by lia,hE'.2.2,fun H2 s2=>?_⟩
    refine ⟨aW,fun l3 n3=>?_⟩
    have s3:=ad (o:=.lst [.str "(",.str (S (au (bP (df ps ms fs x)))),.str o,.str (S (au (bP (df ps ms fs y)))),.str ")"]) n3
    have e3:(aI H2 l3 (.lst [.str "(",.str (S (au (bP (df ps ms fs x)))),.str o,.str (S (au (bP (df ps ms fs y)))),.str ")"])) l3=some (.lst (cX [cp "(",au (bP (df ps ms fs x)),cp o,au (bP (df ps ms fs y)),cp ")"])):=by
     rw [ac]
     unfold cX
     simp only [GO,HM,eX]
    refine ⟨[32],l3,_,congrArg V.str jZ,rfl,KW.of e3,?_,?_⟩
    ·have c1:(cp "(").length=1:=by decide +kernel
     have c2:(cp ")").length=1:=by decide +kernel
     simp only [GO,HM,Ir,List.sum_nil,GB,GL]
     lia
    ·have:=q _ ((s1.trans s2).trans s3)
     have e4:au (bP (df ps ms fs (.two o x y)))=TK.jn [32] [cp "(",au (bP (df ps ms fs x)),cp o,au (bP (df ps ms fs y)),cp ")"]:=(xT o _ _ (ma _) (ma _)).symm
     rw [e4] at this
     exact this
end L3
namespace L2
open PySem PySem.Spec PyProof.Rows
section
variable {X:Cx}
theorem xW:fR X (binaryOp .Mult) (fun x y H Q=>∃ (l:List Nat) (b:Bool),x=.str (S l)/\y=.int (if b=true then 1 else 0)/\l.length<=1000/\Q (.str (S (if b=true then l else []))) H):=by
 intro IP s σ H x y v u Q I rx ry h
 obtain ⟨l,b,rfl,rfl,hn,q⟩:=h
 obtain ⟨t,rfl⟩:=rx
 obtain ⟨t2,rfl⟩:=ry
 have hl:(S l).length=l.length:=aG l
 refine PySem.P.mul_str ?_ ?_ ?_ ?_
 ·cases b<;>simp
 ·intro _ _
  rw [hl]
  cases b
  ·intro hgt;simp at *
  ·intro hgt;first|(simp at *;done)|(simp at *;lia)
 ·intro _ _
  rw [hl]
  unfold Builtin.Str.tooLong
  have sz:(10000:Nat)<=sizeLine:=by decide
  cases b<;>simp<;>lia
 ·cases b with
  | false=>
   rw [if_pos (by simp)]
   refine ⟨?_,⟨.str (S []),H,I.tok _,⟨_,rfl⟩,q⟩⟩
   decide
  | true=>
   rw [if_neg (by simp),if_pos (by simp)]
   exact ⟨.str (S l),H,I.tok _,⟨t,rfl⟩,q⟩
end
end L2
namespace L3
open PySem L2
def FV:Tt->Bool
 | .mk _ _=>true
 | _=>false
def Ba (t:Tt):Str:=if FV t=true then "mark" else "place"
theorem CV (t:Tt):decide (V.str (Ek t)=V.str "top")=sw t:=by
 cases t with
 | top b n=>exact decide_eq_true rfl
 | pl b n=>exact decide_eq_false fun e=>absurd (V.str.inj e) (by show ("place":Str)≠"top";decide +kernel)
 | mk b n=>exact decide_eq_false fun e=>absurd (V.str.inj e) (by show ("mark":Str)≠"top";decide +kernel)
theorem z8 (t:Tt):decide (V.str (Ek t)=V.str "mark")=FV t:=by
 cases t with
 | top b n=>exact decide_eq_false fun e=>absurd (V.str.inj e) (by show ("top":Str)≠"mark";decide +kernel)
 | pl b n=>exact decide_eq_false fun e=>absurd (V.str.inj e) (by show ("place":Str)≠"mark";decide +kernel)
 | mk b n=>exact decide_eq_true rfl
theorem EF (t:Tt):nG ([V.str "place",.str "mark"]:List V) (if FV t=true then 1 else 0)=some (.str (Ba t)):=by
 cases t<;>first|exact aT|exact bQ
theorem Bb (t:Tt):Ba t="place"\/Ba t="mark":=by cases t<;>first|exact .inl rfl|exact .inr rfl
variable {ps ms:List Str}
theorem EG {fs:List (Str×Str)} {t:Tt} (h:zW ps ms fs t):cw (fm ps ms (Ba t)) (Ba t) fs (AW t).1 (AW t).2/\eI (fm ps ms (Ba t)) fs (AW t).1 (AW t).2=pz ps ms fs t:=by
 cases t with
 | top b n=>exact ⟨by show cw (fm ps ms "place") _ fs b n;rw [cP];exact h,by show eI (fm ps ms "place") fs b n=_;rw [cP];rfl⟩
 | pl b n=>exact ⟨by show cw (fm ps ms "place") _ fs b n;rw [cP];exact h,by show eI (fm ps ms "place") fs b n=_;rw [cP];rfl⟩
 | mk b n=>exact ⟨by show cw (fm ps ms "mark") _ fs b n;rw [de];exact h,by show eI (fm ps ms "mark") fs b n=_;rw [de];rfl⟩
def xX (t:Bool):List Nat:=if t=true then [116,111,112,32] else []
theorem qD (t:Bool) (z:Str):xX t++cp z=au (cI t z):=by
 cases t with
 | true=>
  show [116,111,112,32]++cp z=au [("top":Str),z]
  rw [bB (by simp),cQ]
  have:cp ("top":Str)=[116,111,112]:=by decide +kernel
  rw [this]
  rfl
 | false=>rfl
theorem xY (t:Bool) (z:Str):cI t z≠[]:=by cases t<;>simp [cI]
theorem md (b:Bd):cV b≠[]:=by cases b<;>simp [cV]
theorem xZ (t:Bool) (z:Str) (y n:Bd):[123,32,105,102,32]++au (cI t z)++[32]++au (cV y)++[32,101,108,115,101,32]++au (cV n)++[32,125]=au (cV (.ite t z y n)):=by
 have e:cV (.ite t z y n)=("{":Str)::("if":Str)::(cI t z++(cV y++("else":Str)::(cV n++[("}":Str)]))):=rfl
 rw [e,bB (by simp),bB (by simp [md]),dF (xY t z) (by simp [md]),dF (md y) (by simp),bB (by simp),dF (md n) (by simp),cQ]
 have e1:cp ("{":Str)=[123]:=by decide +kernel
 have e2:cp ("if":Str)=[105,102]:=by decide +kernel
 have e3:cp ("else":Str)=[101,108,115,101]:=by decide +kernel
 have e4:cp ("}":Str)=[125]:=by decide +kernel
 rw [e1,e2,e3,e4]
 simp
theorem CW (g:Gs):jY g≠[]:=by cases g<;>simp [jY]
theorem mh (g:Gs):[115,101,116,32]++au (jY g)++[32,61,32]++au (bP (iW g))++[32,59]=au (("set":Str)::gW g):=by
 rw [lN,bB (by simp),dF (CW g) (by simp),bB (by simp),dF (ma _) (by simp),cQ]
 have e1:cp ("set":Str)=[115,101,116]:=by decide +kernel
 have e2:cp ("=":Str)=[61]:=by decide +kernel
 have e3:cp (";":Str)=[59]:=by decide +kernel
 rw [e1,e2,e3]
 simp
theorem ni:∀ s:List Gs,bE s=(s.map fun g=>("set":Str)::gW g).flatten
 | []=>rfl
 | g::r=>by rw [GO,IE,<-ni r];rfl
theorem CY (e:En):fH e≠[]:=by cases e<;>simp [fH]
def eJ (s:List Gs):List (List Nat):=cp "{"::s.map fun g=>au (("set":Str)::gW g)
theorem vA (s:List Gs) (e:En):TK.jn [32] (eJ s++[au (fH e),cp "}"])=au (cV (.leaf s e)):=by
 have h:=fq ([("{":Str)]::(s.map fun g=>("set":Str)::gW g)++[fH e,[("}":Str)]]) (by
  intro g hg
  rcases GP.mp hg with hg|hg
  ·rcases GF.mp hg with rfl|hg
   ·simp
   ·obtain ⟨g0,_,rfl⟩:=G0.mp hg
    simp
  ·simp only [GF,GH,or_false] at hg
   rcases hg with rfl|rfl
   ·exact CY e
   ·simp)
 have e1:([("{":Str)]::(s.map fun g=>("set":Str)::gW g)++[fH e,[("}":Str)]]).flatten=cV (.leaf s e):=by
  rw [List.flatten_append,IE,<-ni]
  simp [cV]
 rw [e1] at h
 rw [<-h]
 unfold eJ
 simp only [GK,GO,HM,Hz]
 rfl
def Gv:Ee->Str
 | .w0 s=>s
 | .fault _=>"fault"
 | .go s _=>s
def Gi (fs:List (Str×Str)):Ee->Str
 | .w0 s=>s
 | .fault _=>"fault"
 | .go s j=>S (au [s,xQ fs j])
inductive x3 (m:Nat) (vs:List V) (H:Hp) (Q:VK):Prop
 | mk (v d lf W ps ms fs dd:_) (m0:Nat):vs=[v,.ref d,.ref lf]->Mz H dd v->Tx H d lf W ps ms fs->m0<=3->m<=3->eG W ps ms fs m0 m dd->(∀ H',KO H H'->Q (.str (S (au (cV (jd ps ms fs dd))))) H')->x3 m vs H Q
def tZ :Nat->Sp
 | 0=>jX
 | m+1=>fun vs H Q _=>x3 m vs H Q
variable {e:Ed} {W m n:Nat}
theorem kE {fs:List (Str×Str)} (h:aX W ps ms fs m e) (hn:m<=n):aX W ps ms fs n e:=by
 induction hn with
 | refl=>exact h
 | step _ ih=>exact ky ih
theorem jM (gs:List Gs) (g:Gs):eJ (gs++[g])=eJ gs++[au (("set":Str)::gW g)]:=by unfold eJ;simp
theorem gz (gs:List Gs):(eJ gs).length=gs.length+1:=by unfold eJ;simp
theorem eO:(("{ if ":Str)=S [123,32,105,102,32])/\((" else ":Str)=S [32,101,108,115,101,32])/\((" }":Str)=S [32,125])/\(("top ":Str)=S [116,111,112,32])/\(("set ":Str)=S [115,101,116,32])/\((" = ":Str)=S [32,61,32])/\((" ;":Str)=S [32,59]):=by decide +kernel
variable {P:Program} {w:World} {K:ZF} {mg:Str->Option Value} {base:Heap} {C fi aS aE aF aO:Addr} {t1 t2 t3 t4 t5 tM:Tok}
theorem Lq:ay ["_law_deed_here","_law_table_here","_law_fields","_law_test","_law_word","_law_yes","_law_words","_law_one","_law_aim","_law_end_here"] ["_law_deed_here","_law_table_here","_law_fields"] (aj jC):=cH (by decide +kernel)
theorem o0 {f:Addr} {fd:FuncData} (F:K7 K "_law_deed_text" "_law_deed_text" jC f fd) (B:Bl mg) (ST:Fn P w K mg base "_law_sel_text" 1 ["_law_sel_here","_law_names_here","_law_fields"] tX) (EX:Fn P w K mg base "_law_expr_text" n ["_law_e","_law_table_here","_law_fields"] (tY 4)) (DT:Fn P w K mg base "_law_deed_text" n ["_law_deed_here","_law_table_here","_law_fields"] (tZ m)) (hn:1<=n):KU P w K mg base bY (n+1) f fd ["_law_deed_here","_law_table_here","_law_fields"] (tZ (m+1)):=by
 have ZZ:=Lq
 walk_at "o"
 ·obtain ⟨v,d,lf,W,ps,ms,fs,dd,m0,rfl,hV,hX,hm0,hm3,hD,q⟩:=h
  have hu:=dP hr
  have IS:KY 1 _:=hr.mono (by lia)
  have sz:(200000:Nat)<=sizeLine:=by decide
  have hbo:=m8 hX.G hm0 hD (GE _)
  have hbl:=dS hbo
  have hln:=bC (mZ hX.w24 hbo)
  have h8:2 ^ m<=8:=Hl (Hk (by decide) hm3) (by decide)
  have joinX:True:=trivial
  refine ⟨_,ae (aM (ak be (aq ax (pv 0) ag (fun _ _=>rfl)) af (av _))
    (ae (ap (i:=3) Lq.nd rfl (Or.inl rfl) (aq ax (pv 0) ag (fun _ _=>rfl)))
    (ae (ap (i:=4) Lq.nd rfl (Or.inl rfl) (ar xW af (aU dX (by rfl) B.int HB (aa (cn be (aq ax (pv 3) ag (fun _ _=>rfl)) af (av _)) ab))))
    (ae (ap (i:=4) Lq.nd rfl (Or.inl rfl) (ar aJ (pv 4) (am ST IS rfl (aa (aq ax (pv 3) ag (fun _ _=>rfl)) (aa (bD hu (pv 1) (ar aJ (aq aL (aB (aa af (aa af ab))) (aU dX (by rfl) B.int HB (aa (cn be (aq ax (pv 3) ag (fun _ _=>rfl)) af (av _)) ab)) (fun _ _=>rfl)) af) (fun _ _=>rfl)) (aa (pv 2) ab))))))
    (ae (ap (i:=5) Lq.nd rfl (Or.inl rfl) (am DT hr rfl (aa (aq ax (pv 0) ag (fun _ _=>rfl)) (aa (pv 1) (aa (pv 2) ab)))))
    (ah (ao (ar aJ (ar aJ (ar aJ (ar aJ (ar aJ (ar aJ af (pv 4)) af) (pv 5)) af) (am DT hr rfl (aa (aq ax (pv 0) ag (fun _ _=>rfl)) (aa (pv 1) (aa (pv 2) ab))))) af))))))) aH)
   (ae (ap (i:=6) Lq.nd rfl (Or.inl rfl) (aB (aa af ab)))
   (ae (cr PassesOwn.never rfl (ft (aq ax (pv 0) ag (fun _ _=>rfl))) (az (i:=7) Lq.nd rfl (Or.inl rfl))
    (ae (aM (ak be (aq ax (pv 7) ag (fun _ _=>rfl)) af (av _)) (ah (ap (i:=8) Lq.nd rfl (Or.inl rfl) (ar aJ (ar aJ af (am EX hr rfl (aa (aq ax (pv 7) ag (fun _ _=>rfl)) (aa (pv 1) (aa (pv 2) ab))))) af)))
      (ah (ap (i:=8) Lq.nd rfl (Or.inl rfl) (am ST IS rfl (aa (aq ax (pv 7) ag (fun _ _=>rfl)) (aa (bD hu (pv 1) (ar aJ (aq ax (pv 7) ag (fun _ _=>rfl)) af) (fun _ _=>rfl)) (aa (pv 2) ab)))))))
    (ah (aN (b9 GS GR GQ bq (pv 6) (aa (ar aJ (ar aJ (ar aJ (ar aJ af (pv 8)) af) (am EX hr rfl (aa (aq ax (pv 7) ag (fun _ _=>rfl)) (aa (pv 1) (aa (pv 2) ab))))) af) ab))))))
   (ae (ap (i:=9) Lq.nd rfl (Or.inl rfl) (aq ax (aq ax (pv 0) ag (fun _ _=>rfl)) ag (fun _ _=>rfl)))
   (bz (fun σ H'=>∃ (lw:Addr) (ss:List Sd) (e:Ee) (v7 v8:Option V),dd=.leaf ss e/\σ=[some v,some (.ref d),some (.ref lf),none,none,none,some (.ref lw),v7,v8,some (.str (Gi fs e))]/\KO H H'/\H' lw=some (.lst (cX (eJ (ss.map (c9 ps ms fs)))))) (aM (PW.pt (fL (ak be (pv 9) af (av _)) (dL (ak be (pv 9) af (av _))))) (ah (ap (i:=9) Lq.nd rfl (Or.inl rfl) (ar aJ (ar aJ (pv 9) af) (aq ax (aq aL (pv 2) (aq ax (aq ax (pv 0) ag (fun _ _=>rfl)) ag (fun _ _=>rfl)) (fun _ _=>rfl)) ag (fun _ _=>rfl))))) aH)
   (bz (fun σ H'=>∃ (lw:Addr) (ss:List Sd) (e:Ee) (v7 v8:Option V),dd=.leaf ss e/\σ=[some v,some (.ref d),some (.ref lf),none,none,none,some (.ref lw),v7,v8,some (.str (S (au (fH (fQ fs e)))))]/\KO H H'/\H' lw=some (.lst (cX (eJ (ss.map (c9 ps ms fs)))))) (aM (ak be (pv 9) af (av _)) (ah (ap (i:=9) Lq.nd rfl (Or.inl rfl) (ar aJ (ar aJ (pv 9) af) (aq ax (aq ax (pv 0) ag (fun _ _=>rfl)) ag (fun _ _=>rfl))))) aH)
   (ah (ao (b9 G9 Hn Hm dc af (aa (ar aR (pv 6) (aB (aa (pv 9) (aa af ab)))) ab))))))))),?_⟩
  cases dd with
  | ite t y z=>
   cases m with
   | zero=>simp [eG] at hD
   | succ m=>
    obtain ⟨hto,hyo,hzo⟩:=hD
    obtain ⟨p,u,a,bb,rfl,hp,⟨pt,ut,rfl,hpt,hsl⟩,ha,hb⟩:=hV
    obtain ⟨hso,hsn⟩:=EG hto
    have by1:=m8 hX.G hm0 hyo (GE _)
    have bz1:=m8 hX.G hm0 hzo (GE _)
    have ly:=bC (mZ hX.w24 by1)
    have lz:=bC (mZ hX.w24 bz1)
    have ly2:=dS by1
    have lz2:=dS bz1
    have h4:2 ^ m<=8:=Hl (Hk (by decide) (by lia:m<=3)) (by decide)
    have hnz:cz (pz ps ms fs t):=by
     cases t with
     | top b n=>exact cG hX.G.p hX.G.f hto
     | pl b n=>exact cG hX.G.p hX.G.f hto
     | mk b n=>exact cG hX.G.m hX.G.f hto
    have lzn:=hnz.1.len
    have ltp:(xX (sw t)).length<=4:=by cases sw t<;>decide
    refine ⟨_,rfl,p,_,_,_,rfl,rfl,KP.of hp,aT,rfl,_,rfl,br (decide_eq_true rfl) ?_⟩
    refine ⟨_,rfl,p,_,_,_,rfl,rfl,KP.of hp,bQ,?_⟩
    refine ⟨_,rfl,pt,_,_,_,rfl,rfl,KP.of hpt,aT,rfl,.inr ⟨_,rfl,?_⟩⟩
    refine ⟨[116,111,112,32],sw t,congrArg V.str eO.2.2.2.1,congrArg (fun b:Bool=>V.int (if b=true then 1 else 0)) (CV t),by decide,?_⟩
    refine ⟨_,rfl,_,rfl,pt,_,_,_,rfl,rfl,KP.of hpt,bQ,_,rfl,aW,fun ll nll=>?_⟩
    generalize zz:aI H ll _=H1
    have s1:KO H H1:=zz ▸ ad nll
    have e1:H1 ll=some (.lst [V.str "place",.str "mark"]):=zz ▸ ac
    clear zz
    obtain ⟨l,dg,el⟩:=iD (hX.t.same s1) (Bb t)
    refine ⟨_,rfl,pt,_,_,_,rfl,rfl,KP.of (s1 _ _ hpt),aT,rfl,.inr ⟨_,rfl,ll,_,_,_,rfl,rfl,KW.of e1,by rw [z8];exact EF t,?_⟩⟩
    have hsl2:(Ba t).length+("s":Str).length<=sizeLine:=by rcases Bb t with e|e<;>rw [e]<;>decide +kernel
    refine ⟨_,_,rfl,rfl,hsl2,d,_,rfl,dg,_,rfl,ut,l,lf,_,fs,Ba t,_,_,rfl,hsl.kt (al s1),el,hX.f.same s1,hso,?_⟩
    rw [hsn]
    have ew:S (xX (sw t))++pz ps ms fs t=S (au (cI (sw t) (pz ps ms fs t))):=by
     have:pz ps ms fs t=S (cp (pz ps ms fs t)):=(eX _).symm
     rw [this,bA,qD,eX]
    have zl:(pz ps ms fs t).length=(cp (pz ps ms fs t)).length:=by show (pz ps ms fs t).cps.size=_;unfold cp;simp
    refine ⟨_,_,rfl,rfl,?_,?_⟩
    ·have:(S (xX (sw t))).length<=4:=by rw [aG];exact ltp
     show (S (xX (sw t))).length+(pz ps ms fs t).length<=sizeLine
     lia
    have lt2:(au (cI (sw t) (pz ps ms fs t))).length<=12:=by
     rw [<-qD,Gy]
     lia
    have ew':V.str (S (if sw t=true then [116,111,112,32] else [])++pz ps ms fs t)=V.str (S (au (cI (sw t) (pz ps ms fs t)))):=congrArg V.str ew
    rw [ew']
    generalize Je:au (cI (sw t) (pz ps ms fs t))=lt at *
    refine ⟨_,rfl,p,_,_,_,rfl,rfl,KP.of (s1 _ _ hp),gp,_,rfl,_,rfl,a,d,lf,W,ps,ms,fs,y,m0,rfl,ha.kt (al s1),hX.same s1,hm0,by lia,hyo,fun H2 s2=>?_⟩
    have s02:=s1.trans s2
    refine ⟨_,rfl,_,_,congrArg V.str eO.1,rfl,by rw [aG,aG];simp;lia,?_⟩
    rw [bA]
    refine ⟨_,_,rfl,congrArg V.str jZ,by rw [aG,aG];simp;lia,?_⟩
    rw [bA]
    refine ⟨_,rfl,_,_,rfl,rfl,by rw [aG,aG];simp;lia,?_⟩
    rw [bA]
    refine ⟨_,_,rfl,congrArg V.str eO.2.1,by rw [aG,aG];simp;lia,?_⟩
    rw [bA]
    refine ⟨_,rfl,p,_,_,_,rfl,rfl,KP.of (s02 _ _ hp),Ce,_,rfl,_,rfl,bb,d,lf,W,ps,ms,fs,z,m0,rfl,hb.kt (al s02),hX.same s02,hm0,by lia,hzo,fun H3 s3=>?_⟩
    refine ⟨_,_,rfl,rfl,by rw [aG,aG];simp;lia,?_⟩
    rw [bA]
    refine ⟨_,_,rfl,congrArg V.str eO.2.2.1,by rw [aG,aG];simp;lia,?_⟩
    rw [bA]
    have:=q H3 (s02.trans s3)
    have e4:au (cV (jd ps ms fs (.ite t y z)))=[123,32,105,102,32]++lt++[32]++au (cV (jd ps ms fs y))++[32,101,108,115,101,32]++au (cV (jd ps ms fs z))++[32,125]:=by
     rw [<-Je]
     exact (xZ _ _ _ _).symm
    rw [e4] at this
    exact this
  | leaf ss e=>
   obtain ⟨p,qs,us,u,rfl,hp,hq,Ja,hue⟩:=hV
   have h':ss.length<=4/\(ss.filter Sd.isCell).length<=1/\(∀ g∈ss,eE W ps ms fs m0 g)/\lZ fs e:=by cases m<;>exact hD
   have hen:=A9 hX.G.f h'.2.2.2
   have lus:=Ja.length
   refine ⟨_,rfl,p,_,_,_,rfl,rfl,KP.of hp,aT,rfl,_,rfl,aZ (by decide +kernel) ?_⟩
   refine ⟨aW,fun lw nlw=>?_⟩
   have s1:=ad (o:=.lst [V.str "{"]) nlw
   have e1:(aI H lw (.lst [V.str "{"])) lw=some (.lst (cX (eJ []))):=by
    rw [ac]
    unfold cX eJ
    simp only [GO,HM,eX]
   generalize aI H lw (.lst [V.str "{"])=H1 at *
   refine ⟨_,rfl,p,_,_,_,rfl,rfl,KP.of (s1 _ _ hp),bQ,qs,rfl,⟨_,KP.of (s1 _ _ hq)⟩,?_⟩
   refine gD (K:=K) (a:=qs) (xs:=us) (fun i σ H'=>∃ v7 v8:Option V,σ=[some (.ref p),some (.ref d),some (.ref lf),none,none,none,some (.ref lw),v7,v8,none]/\KO H H'/\H' lw=some (.lst (cX (eJ ((ss.take i).map (c9 ps ms fs)))))) ⟨_,_,rfl,s1,e1⟩ (fun i σ H' _ ⟨_,_,_,s',_⟩=>KP.of (s' _ _ hq)) ?_ ?_
   ·rintro i x σ H2 hx ⟨v7,v8,rfl,s2,e2⟩
    obtain ⟨g,hg,hgv⟩:=gr Ja hx
    have hil:=(GA.mp hx).1
    have hgo:=h'.2.2.1 g (GM hg)
    cases g with
    | cell a ee=>
     obtain ⟨p',uu,tt,rfl,hp',huu,htt⟩:=hgv
     have hea:aX W ps ms fs 3 a:=kE hgo.1 (by lia)
     have hee:aX W ps ms fs 3 ee:=kE hgo.2 hm0
     have la:=bC (eM hX.w24 (cY hX.G hea))
     have la2:=cJ (cY hX.G hea)
     have le:=bC (eM hX.w24 (cY hX.G hee))
     have le2:=cJ (cY hX.G hee)
     have h32:(2:Nat) ^ (3+2)=32:=by decide
     refine ⟨_,rfl,p',_,_,_,rfl,rfl,KP.of (s2 _ _ hp'),aT,rfl,_,rfl,br (decide_eq_true rfl) ?_⟩
     refine ⟨_,rfl,p',_,_,_,rfl,rfl,KP.of (s2 _ _ hp'),bQ,_,rfl,_,rfl,uu,d,lf,W,ps,ms,fs,a,rfl,huu.kt (al s2),hX.same s2,by decide,hea,fun H3 s3=>?_⟩
     refine ⟨_,_,congrArg V.str z6.1,rfl,by rw [aG,aG];simp;lia,?_⟩
     rw [bA]
     refine ⟨_,_,rfl,congrArg V.str z6.2,by rw [aG,aG];simp;lia,?_⟩
     rw [bA]
     have eh:[91,32]++au (bP (df ps ms fs a))++[32,93]=au (jY (c9 ps ms fs (.cell a ee))):=nh _ (ma _)
     have lh:(au (jY (c9 ps ms fs (.cell a ee)))).length<=400:=by
      rw [<-eh,Gy,Gy]
      simp
      lia
     rw [eh]
     refine ⟨_,rfl,.inl ⟨rfl,_,KW.of (s3 _ _ e2)⟩,?_⟩
     refine ⟨_,rfl,_,_,congrArg V.str eO.2.2.2.2.1,rfl,by rw [aG,aG];simp;lia,?_⟩
     rw [bA]
     refine ⟨_,_,rfl,congrArg V.str eO.2.2.2.2.2.1,by rw [aG,aG];simp;lia,?_⟩
     rw [bA]
     refine ⟨_,rfl,p',_,_,_,rfl,rfl,KP.of ((s2.trans s3) _ _ hp'),gp,_,rfl,_,rfl,tt,d,lf,W,ps,ms,fs,ee,rfl,htt.kt (al (s2.trans s3)),hX.same (s2.trans s3),by decide,hee,fun H4 s4=>?_⟩
     refine ⟨_,_,rfl,rfl,by rw [aG,aG];simp;lia,?_⟩
     rw [bA]
     refine ⟨_,_,rfl,congrArg V.str eO.2.2.2.2.2.2,by rw [aG,aG];simp;lia,?_⟩
     rw [bA]
     refine ⟨lw,_,_,rfl,rfl,(s3.trans s4) _ _ e2,by rw [cL,gz,GC,GG];lia,_,_,rfl,bK nlw ((s2.trans s3).trans s4),?_⟩
     rw [ac]
     congr 2
     rw [GX,hg]
     show _=cX (eJ (List.map (c9 ps ms fs) (ss.take i++[.cell a ee])))
     rw [GK,GO,HM,jM,<-mh]
     unfold cX
     rw [GK]
     rfl
    | pl b n ee=>
     obtain ⟨p',uu,tt,rfl,hp',huu,htt⟩:=hgv
     have hee:aX W ps ms fs 3 ee:=kE hgo.2 hm0
     have le:=bC (eM hX.w24 (cY hX.G hee))
     have le2:=cJ (cY hX.G hee)
     have h32:(2:Nat) ^ (3+2)=32:=by decide
     obtain ⟨l,dg,el⟩:=iD (hX.t.same s2) (st:="place") (by first|exact .inl rfl|exact .inr rfl)
     refine ⟨_,rfl,p',_,_,_,rfl,rfl,KP.of (s2 _ _ hp'),aT,rfl,_,rfl,aZ (by decide +kernel) ?_⟩
     refine ⟨_,rfl,p',_,_,_,rfl,rfl,KP.of (s2 _ _ hp'),bQ,_,rfl,_,rfl,p',_,_,_,rfl,rfl,KP.of (s2 _ _ hp'),aT,_,_,rfl,rfl,by decide +kernel,d,_,rfl,dg,_,rfl,uu,l,lf,_,fs,"place",b,n,rfl,huu.kt (al s2),el,hX.f.same s2,by rw [cP];exact hgo.1,?_⟩
     rw [cP]
     have nm:=(cG (st:="place") hX.G.p hX.G.f hgo.1).1.len
     have lh:(au (jY (c9 ps ms fs (.pl b n ee)))).length<=400:=by
      show (cp (eI _ fs b n)).length<=400
      lia
     have s3:KO H2 H2:=KO.refl _
     refine ⟨_,rfl,.inl ⟨rfl,_,KW.of (s3 _ _ e2)⟩,?_⟩
     refine ⟨_,rfl,_,_,congrArg V.str eO.2.2.2.2.1,congrArg V.str (eX _).symm,by rw [aG,aG];simp;lia,?_⟩
     rw [bA]
     refine ⟨_,_,rfl,congrArg V.str eO.2.2.2.2.2.1,by rw [aG,aG];simp;lia,?_⟩
     rw [bA]
     refine ⟨_,rfl,p',_,_,_,rfl,rfl,KP.of ((s2.trans s3) _ _ hp'),gp,_,rfl,_,rfl,tt,d,lf,W,ps,ms,fs,ee,rfl,htt.kt (al (s2.trans s3)),hX.same (s2.trans s3),by decide,hee,fun H4 s4=>?_⟩
     refine ⟨_,_,rfl,rfl,by rw [aG,aG];simp;lia,?_⟩
     rw [bA]
     refine ⟨_,_,rfl,congrArg V.str eO.2.2.2.2.2.2,by rw [aG,aG];simp;lia,?_⟩
     rw [bA]
     refine ⟨lw,_,_,rfl,rfl,(s3.trans s4) _ _ e2,by rw [cL,gz,GC,GG];lia,_,_,rfl,bK nlw ((s2.trans s3).trans s4),?_⟩
     rw [ac]
     congr 2
     rw [GX,hg]
     show _=cX (eJ (List.map (c9 ps ms fs) (ss.take i++[.pl b n ee])))
     rw [GK,GO,HM,jM,<-mh]
     unfold cX
     rw [GK]
     rfl
    | mk b n ee=>
     obtain ⟨p',uu,tt,rfl,hp',huu,htt⟩:=hgv
     have hee:aX W ps ms fs 3 ee:=kE hgo.2 hm0
     have le:=bC (eM hX.w24 (cY hX.G hee))
     have le2:=cJ (cY hX.G hee)
     have h32:(2:Nat) ^ (3+2)=32:=by decide
     obtain ⟨l,dg,el⟩:=iD (hX.t.same s2) (st:="mark") (by first|exact .inl rfl|exact .inr rfl)
     refine ⟨_,rfl,p',_,_,_,rfl,rfl,KP.of (s2 _ _ hp'),aT,rfl,_,rfl,aZ (by decide +kernel) ?_⟩
     refine ⟨_,rfl,p',_,_,_,rfl,rfl,KP.of (s2 _ _ hp'),bQ,_,rfl,_,rfl,p',_,_,_,rfl,rfl,KP.of (s2 _ _ hp'),aT,_,_,rfl,rfl,by decide +kernel,d,_,rfl,dg,_,rfl,uu,l,lf,_,fs,"mark",b,n,rfl,huu.kt (al s2),el,hX.f.same s2,by rw [de];exact hgo.1,?_⟩
     rw [de]
     have nm:=(cG (st:="mark") hX.G.m hX.G.f hgo.1).1.len
     have lh:(au (jY (c9 ps ms fs (.mk b n ee)))).length<=400:=by
      show (cp (eI _ fs b n)).length<=400
      lia
     have s3:KO H2 H2:=KO.refl _
     refine ⟨_,rfl,.inl ⟨rfl,_,KW.of (s3 _ _ e2)⟩,?_⟩
     refine ⟨_,rfl,_,_,congrArg V.str eO.2.2.2.2.1,congrArg V.str (eX _).symm,by rw [aG,aG];simp;lia,?_⟩
     rw [bA]
     refine ⟨_,_,rfl,congrArg V.str eO.2.2.2.2.2.1,by rw [aG,aG];simp;lia,?_⟩
     rw [bA]
     refine ⟨_,rfl,p',_,_,_,rfl,rfl,KP.of ((s2.trans s3) _ _ hp'),gp,_,rfl,_,rfl,tt,d,lf,W,ps,ms,fs,ee,rfl,htt.kt (al (s2.trans s3)),hX.same (s2.trans s3),by decide,hee,fun H4 s4=>?_⟩
     refine ⟨_,_,rfl,rfl,by rw [aG,aG];simp;lia,?_⟩
     rw [bA]
     refine ⟨_,_,rfl,congrArg V.str eO.2.2.2.2.2.2,by rw [aG,aG];simp;lia,?_⟩
     rw [bA]
     refine ⟨lw,_,_,rfl,rfl,(s3.trans s4) _ _ e2,by rw [cL,gz,GC,GG];lia,_,_,rfl,bK nlw ((s2.trans s3).trans s4),?_⟩
     rw [ac]
     congr 2
     rw [GX,hg]
     show _=cX (eJ (List.map (c9 ps ms fs) (ss.take i++[.mk b n ee])))
     rw [GK,GO,HM,jM,<-mh]
     unfold cX
     rw [GK]
     rfl
   ·rintro σ H2 ⟨v7,v8,rfl,s2,e2⟩
    rw [lus,GV] at e2
    have hE:∃ pe r,u=.ref pe/\H pe=some (.tup (.str (Gv e)::r)):=by
     cases e with
     | w0 s=>obtain ⟨pe,a,b⟩:=hue;exact ⟨pe,_,a,b⟩
     | fault z=>obtain ⟨pe,a,b⟩:=hue;exact ⟨pe,_,a,b⟩
     | go s j=>obtain ⟨pe,a,b⟩:=hue;exact ⟨pe,_,a,b⟩
    obtain ⟨pe,re,rfl,hpe⟩:=hE
    refine ⟨_,rfl,p,_,_,_,rfl,rfl,KP.of (s2 _ _ hp),gp,pe,_,_,_,rfl,rfl,KP.of (s2 _ _ hpe),aT,?_⟩
    refine ⟨?_,?_⟩
    ·rintro σ H3 ⟨lw,ss',e',v7,v8,ed,rfl,s3,e3⟩
     cases ed
     refine ⟨?_,?_⟩
     ·rintro σ H4 ⟨lw,ss',e',v7,v8,ed,rfl,s4,e4⟩
      cases ed
      have lnE:=bC (A7 hen)
      have lnE2:=oO (fQ fs e)
      refine ⟨rfl,_,rfl,_,rfl,aW,fun l5 n5=>?_⟩
      have s5:=ad (o:=.lst [.str (S (au (fH (fQ fs e)))),.str "}"]) n5
      have e5:(aI H4 l5 (.lst [.str (S (au (fH (fQ fs e)))),.str "}"])) l5=some (.lst (cX [au (fH (fQ fs e)),cp "}"])):=by
       rw [ac]
       unfold cX
       simp only [GO,HM,eX]
      generalize aI H4 l5 (.lst [V.str (S (au (fH (fQ fs e)))),.str "}"])=H5 at *
      refine ⟨lw,l5,_,_,rfl,rfl,s5 _ _ e4,e5,by rw [cL,cL,gz,GC];simp;lia,fun l6 n6=>?_⟩
      have eT:cX (eJ (ss.map (c9 ps ms fs)))++cX [au (fH (fQ fs e)),cp "}"]=cX (eJ (ss.map (c9 ps ms fs))++[au (fH (fQ fs e)),cp "}"]):=by unfold cX;rw [GK]
      rw [eT]
      have s6:=ad (o:=.lst (cX (eJ (ss.map (c9 ps ms fs))++[au (fH (fQ fs e)),cp "}"]))) n6
      refine ⟨[32],l6,_,congrArg V.str jZ,rfl,KW.of ac,?_,?_⟩
      ·have hb:∀ t∈eJ (ss.map (c9 ps ms fs))++[au (fH (fQ fs e)),cp "}"],t.length<=1000:=by
        intro t ht
        rcases GP.mp ht with ht|ht
        ·rcases GF.mp ht with rfl|ht
         ·decide +kernel
         ·obtain ⟨g0,hg0,rfl⟩:=G0.mp ht
          obtain ⟨g1,hg1,rfl⟩:=G0.mp hg0
          have hgk:=A8 hX.G hm0 (h'.2.2.1 g1 hg1)
          have h1:=oN hgk
          have h2:=bC (zs:=("set":Str)::gW (c9 ps ms fs g1)) (by
           intro z hz
           rcases GF.mp hz with rfl|hz
           ·exact .word (by decide +kernel)
           ·exact A6 hX.w24 hgk z hz)
          rw [GB] at h2
          lia
        ·simp only [GF,GH,or_false] at ht
         rcases ht with rfl|rfl
         ·lia
         ·decide +kernel
       have h1:=iB 1000 _ hb
       have h2:(eJ (ss.map (c9 ps ms fs))++[au (fH (fQ fs e)),cp "}"]).length<=7:=by
        rw [Gy,gz,GC]
        simp
        lia
       simp only [GB,GL]
       lia
      ·have:=q _ ((s4.trans s5).trans s6)
       have e7:au (cV (jd ps ms fs (.leaf ss e)))=TK.jn [32] (eJ (ss.map (c9 ps ms fs))++[au (fH (fQ fs e)),cp "}"]):=(vA _ _).symm
       rw [e7] at this
       exact this
     ·cases e with
      | w0 s=>
       have hs:s∈(["next","back","stop"]:List Str):=h'.2.2.2
       have Jb:s≠"fault":=by
        have:∀ z∈(["next","back","stop"]:List Str),z≠"fault":=by decide +kernel
        exact this s hs
       refine ⟨_,rfl,rfl,_,rfl,aZ (decide_eq_false fun e=>Jb (V.str.inj e)) ⟨lw,ss,.w0 s,v7,v8,rfl,?_,s3,e3⟩⟩
       exact congrArg (fun z=>[some (V.ref p),some (.ref d),some (.ref lf),none,none,none,some (.ref lw),v7,v8,some (.str z)]) (eX s).symm
      | fault z=>
       obtain ⟨pe',ee,hpf⟩:=hue
       cases ee
       have nz:cz z:=h'.2.2.2
       have ln:=nz.1.len
       have zl:z.length=(cp z).length:=by show z.cps.size=_;unfold cp;simp
       refine ⟨_,rfl,rfl,_,rfl,br (decide_eq_true rfl) ?_⟩
       refine ⟨_,rfl,_,_,rfl,rfl,by show ("fault":Str).length+(" ":Str).length<=sizeLine;decide +kernel,_,rfl,p,_,_,_,rfl,rfl,KP.of (s3 _ _ hp),gp,pe,_,_,_,rfl,rfl,KP.of (s3 _ _ hpf),bQ,_,_,rfl,rfl,?_,?_⟩
       ·have:(("fault":Str)++(" ":Str)).length=6:=by decide +kernel
        show (("fault":Str)++(" ":Str)).length+z.length<=sizeLine
        lia
       ·refine ⟨lw,ss,.fault z,v7,v8,rfl,?_,s3,e3⟩
        refine congrArg (fun z=>[some (V.ref p),some (.ref d),some (.ref lf),none,none,none,some (.ref lw),v7,v8,some (.str z)]) ?_
        show ("fault":Str)++(" ":Str)++z=S (au [("fault":Str),z])
        rw [bB (by simp),cQ]
        have e8:("fault":Str)++(" ":Str)=S (cp "fault"++[32]):=by decide +kernel
        rw [e8]
        have e9:z=S (cp z):=(eX z).symm
        rw [e9,bA,fh]
        congr 1
        try simp
      | go s j=>
       have hs:s∈(["go","call"]:List Str):=h'.2.2.2.1
       have Jb:S (au [s,xQ fs j])≠"fault":=by
        intro e
        have e2:=congrArg cp e
        rw [fh,bB (by simp),cQ] at e2
        have:∀ z∈(["go","call"]:List Str),(cp z)[0]?≠some 102/\cp z≠[]:=by decide +kernel
        obtain ⟨h1,h2⟩:=this s hs
        have e3:=congrArg (fun l:List Nat=>l[0]?) e2
        have e4:(cp ("fault":Str))[0]?=some 102:=by decide +kernel
        have e5:(cp s++(32::cp (xQ fs j)))[0]?=(cp s)[0]?:=by
         cases hc:cp s with
         | nil=>exact absurd hc h2
         | cons a r=>rfl
        exact h1 (by rw [<-e5];exact e3.trans e4)
       exact ⟨_,rfl,rfl,_,rfl,aZ (decide_eq_false fun e=>Jb (V.str.inj e)) ⟨lw,ss,.go s j,v7,v8,rfl,rfl,s3,e3⟩⟩
    ·cases e with
     | w0 s=>
      have hs:s∈(["next","back","stop"]:List Str):=h'.2.2.2
      have:∀ z∈(["next","back","stop"]:List Str),z≠"go"/\z≠"call":=by decide +kernel
      obtain ⟨h1,h2⟩:=this s hs
      refine ⟨_,rfl,rfl,_,rfl,aZ (decide_eq_false fun e=>h1 (V.str.inj e)) ?_⟩
      refine ⟨_,rfl,rfl,_,rfl,aZ (decide_eq_false fun e=>h2 (V.str.inj e)) ⟨lw,ss,.w0 s,v7,v8,rfl,rfl,s2,e2⟩⟩
     | fault z=>
      refine ⟨_,rfl,rfl,_,rfl,aZ (by show decide (V.str "fault"=V.str "go")=false;decide +kernel) ?_⟩
      refine ⟨_,rfl,rfl,_,rfl,aZ (by show decide (V.str "fault"=V.str "call")=false;decide +kernel) ⟨lw,ss,.fault z,v7,v8,rfl,rfl,s2,e2⟩⟩
     | go s j=>
      obtain ⟨pe',ee,hpf⟩:=hue
      cases ee
      obtain ⟨hs,z,hz⟩:=h'.2.2.2
      obtain ⟨fu,pf,f1,f2,f3⟩:=xV hX.f hz
      have nz:cz z:=hX.G.f _ (GM hz)
      have ln:=nz.1.len
      have zl:z.length=(cp z).length:=by show z.cps.size=_;unfold cp;simp
      have hsl:∀ y∈(["go","call"]:List Str),y.length<=4/\(y++(" ":Str)).length<=5/\y++(" ":Str)=S (cp y++[32]):=by decide +kernel
      obtain ⟨hs4,hs5,hs6⟩:=hsl s hs
      have fin:∃ (lw':Addr) (ss':List Sd) (e':Ee) (v7' v8':Option V),Dd.leaf ss (.go s j)=.leaf ss' e'/\[some (V.ref p),some (.ref d),some (.ref lf),none,none,none,some (.ref lw),v7,v8,some (.str (s++(" ":Str)++z))]=[some (.ref p),some (.ref d),some (.ref lf),none,none,none,some (.ref lw'),v7',v8',some (.str (Gi fs e'))]/\KO H H2/\H2 lw'=some (.lst (cX (eJ (ss'.map (c9 ps ms fs))))):=by
       refine ⟨lw,ss,.go s j,v7,v8,rfl,?_,s2,e2⟩
       refine congrArg (fun z=>[some (V.ref p),some (.ref d),some (.ref lf),none,none,none,some (.ref lw),v7,v8,some (.str z)]) ?_
       show s++(" ":Str)++z=S (au [s,xQ fs j])
       rw [bB (by simp),cQ,eY hz,hs6]
       have e9:z=S (cp z):=(eX z).symm
       rw [e9,bA,fh]
       congr 1
       try simp
      have hs7:s.length+(" ":Str).length<=sizeLine:=by
       have:(" ":Str).length=1:=by decide +kernel
       lia
      by_cases hgo:s="go"
      ·refine ⟨_,rfl,rfl,_,rfl,br (decide_eq_true (by rw [hgo];rfl)) (pP ?_)⟩
       refine ⟨_,rfl,_,_,rfl,rfl,hs7,_,rfl,_,rfl,p,_,_,_,rfl,rfl,KP.of (s2 _ _ hp),gp,pe,_,_,_,rfl,rfl,KP.of (s2 _ _ hpf),bQ,lf,_,_,_,rfl,rfl,KW.of (s2 _ _ f1),bf f2,pf,_,_,_,rfl,rfl,KP.of (s2 _ _ f3),aT,_,_,rfl,rfl,?_,fin⟩
       show (s++(" ":Str)).length+z.length<=sizeLine
       lia
      ·have hca:s="call":=by
        simp only [GF,GH,or_false] at hs
        exact hs.resolve_left hgo
       refine ⟨_,rfl,rfl,_,rfl,aZ (decide_eq_false fun e=>hgo (V.str.inj e)) ?_⟩
       refine ⟨_,rfl,rfl,_,rfl,br (decide_eq_true (by rw [hca];rfl)) ?_⟩
       refine ⟨_,rfl,_,_,rfl,rfl,hs7,_,rfl,_,rfl,p,_,_,_,rfl,rfl,KP.of (s2 _ _ hp),gp,pe,_,_,_,rfl,rfl,KP.of (s2 _ _ hpf),bQ,lf,_,_,_,rfl,rfl,KW.of (s2 _ _ f1),bf f2,pf,_,_,_,rfl,rfl,KP.of (s2 _ _ f3),aT,_,_,rfl,rfl,?_,fin⟩
       show (s++(" ":Str)).length+z.length<=sizeLine
       lia
theorem o8 {fs:List (Str×Str)}:∀ {c:Nat} {d:Dd},eG W ps ms fs m c d->eG W ps ms fs m (c+1) d
 | 0,.leaf _ _,h=>h
 | _+1,.leaf _ _,h=>h
 | 0,.ite _ _ _,h=>absurd h (by simp [eG])
 | c+1,.ite t y n,h=>⟨h.1,o8 (c:=c) (d:=y) h.2.1,o8 (c:=c) (d:=n) h.2.2⟩
variable {d:Dd} {c:Nat}
theorem z9 {fs:List (Str×Str)} (h:eG W ps ms fs m c d) (hn:c<=n):eG W ps ms fs m n d:=by
 induction hn with
 | refl=>exact h
 | step _ ih=>exact o8 ih
def o9:Nat->Nat
 | 0=>1
 | m+1=>2*o9 m+3
theorem je:∀ m,1<=o9 m
 | 0=>GE _
 | m+1=>by unfold o9;lia
theorem x4 (h:m<=n):o9 m<=o9 n:=by
 induction h with
 | refl=>exact GE _
 | step _ ih=>simp only [o9];lia
theorem iF {fs:List (Str×Str)}:∀ {m:Nat} {e:Ed},aX W ps ms fs m e->(bP (df ps ms fs e)).length<=o9 m
 | m,.num _,_=>je m
 | m,.fld _,_=>je m
 | m,.pl _ _,_=>je m
 | m,.mk _ _,_=>je m
 | 0,.cell _,h=>absurd h (by simp [aX])
 | m+1,.cell e,h=>by
  have h':aX W ps ms fs m e:=by simpa [aX] using h
  have:=iF h'
  have p:=je m
  simp only [df,bP,o9,GB,Gy,GL]
  lia
 | 0,.two _ _ _,h=>absurd h (by simp [aX])
 | m+1,.two o x y,h=>by
  have h':o∈La/\aX W ps ms fs m x/\aX W ps ms fs m y:=by simpa [aX] using h
  have h1:=iF h'.2.1
  have h2:=iF h'.2.2
  simp only [df,bP,o9,GB,Gy,GL]
  lia
variable {g:Sd}
theorem CZ {fs:List (Str×Str)} (h:eE W ps ms fs m g):(gW (c9 ps ms fs g)).length+1<=4+o9 m+(if g.isCell=true then 1+o9 m else 0):=by
 cases g with
 | cell a e=>
  have h1:=iF h.1
  have h2:=iF h.2
  have h3:=x4 (m:=m - 1) (n:=m) (by lia)
  simp only [c9,gW,GB,Gy,GL,Sd.isCell,if_true]
  lia
 | pl b n e=>
  have h2:=iF h.2
  simp only [c9,gW,GB,Gy,GL,Sd.isCell,if_true]
  lia
 | mk b n e=>
  have h2:=iF h.2
  simp only [c9,gW,GB,Gy,GL,Sd.isCell,if_true]
  lia
theorem qE {fs:List (Str×Str)}:∀ {s:List Sd},(∀ g∈s,eE W ps ms fs m g)->(bE (s.map (c9 ps ms fs))).length<=s.length*(4+o9 m)+(s.filter Sd.isCell).length*(1+o9 m)
 | [],_=>by simp [bE]
 | g::r,h=>by
  have h1:=CZ (h g Gz)
  have h2:=qE fun x hx=>h x (GD _ hx)
  simp only [GO,bE,GB,Gy,Nat.add_mul,Nat.one_mul]
  by_cases hg:g.isCell=true
  ·rw [HN hg,GB,Nat.add_mul,Nat.one_mul]
   rw [if_pos hg] at h1
   lia
  ·rw [Iy hg]
   rw [if_neg hg] at h1
   lia
def jN (m:Nat):Nat->Nat
 | 0=>4+4*(4+o9 m)+(1+o9 m)
 | c+1=>2*jN m c+6
theorem nj (m:Nat):∀ c,jN m 0<=jN m c
 | 0=>GE _
 | c+1=>by have:=nj m c;simp only [jN] at *;lia
theorem sD {fs:List (Str×Str)}:∀ {c:Nat} {d:Dd},eG W ps ms fs m c d->(cV (jd ps ms fs d)).length<=jN m c
 | c,.leaf s e,h=>by
  have h':s.length<=4/\(s.filter Sd.isCell).length<=1/\(∀ g∈s,eE W ps ms fs m g)/\lZ fs e:=by cases c<;>exact h
  have h1:=qE h'.2.2.1
  have h2:=nj m c
  have h3:s.length*(4+o9 m)<=4*(4+o9 m):=Nat.mul_le_mul_right _ h'.1
  have h4:(s.filter Sd.isCell).length*(1+o9 m)<=1*(1+o9 m):=Nat.mul_le_mul_right _ h'.2.1
  have h5:(fH (fQ fs e)).length<=2:=by cases e<;>simp [fQ,fH]
  simp only [jd,cV,GB,Gy,GL]
  simp only [jN] at h2
  lia
 | 0,.ite _ _ _,h=>absurd h (by simp [eG])
 | c+1,.ite t y n,h=>by
  have h1:=sD (c:=c) h.2.1
  have h2:=sD (c:=c) h.2.2
  simp only [jd,cV,jN,GB,Gy,GL]
  have h3:((if sw t=true then [("top":Str),pz ps ms fs t] else [pz ps ms fs t]):List Str).length<=2:=by split<;>simp
  lia
theorem jf (fs:List (Str×Str)):(cW fs).length=3*fs.length - 1:=by
 unfold cW
 rw [GG,i5]
 lia
variable {x:Kn}
theorem C0 {W c k:Nat} {ps ms fn:List Str} (h:KL W ps ms fn c k x):(bF x).length<=12+jN (k - 1) c:=by
 obtain ⟨j,hj,e⟩:=h.fn
 have hl:x.fs.length<=3:=by
  have:=congrArg List.length e
  rw [GC,GG] at this
  lia
 have h1:=sD h.dd
 unfold bF
 rw [h.bd]
 simp only [GB,Gy,GL,jf]
 lia
theorem ua {b:Nat}:∀ {l:List Kn},(∀ x∈l,(bF x).length<=b)->(l.flatMap bF).length<=l.length*b
 | [],_=>by simp
 | x::r,h=>by
  have h1:=h x Gz
  have h2:=ua fun y hy=>h y (GD _ hy)
  rw [HX,Gy,GB,Nat.add_mul,Nat.one_mul]
  lia
theorem C1 {n c k:Nat} (h:sx n c k):n*(12+jN (k - 1) c)<=1400/\jN (k - 1) c<=1000:=by
 have f:∀ n' k' c' b,jN (k' - 1) c'<=b->n'*(12+b)<=1400->b<=1000->n<=n'->k=k'->c=c'->n*(12+jN (k - 1) c)<=1400/\jN (k - 1) c<=1000:=by
  intro n' k' c' b h1 h2 h3 h4 h5 h6
  subst h5 h6
  exact ⟨Hl (Nat.mul_le_mul h4 (by lia)) h2,by lia⟩
 rcases h with ⟨_,h,rfl,rfl⟩|⟨rfl,rfl,rfl⟩|⟨_,h,rfl,rfl⟩|⟨_,h,rfl,h2,h3⟩
 ·exact f 8 2 0 100 (by decide) (by decide) (by decide) h rfl rfl
 ·exact f 1 2 3 1000 (by decide) (by decide) (by decide) (GE _) rfl rfl
 ·exact f 5 4 0 260 (by decide) (by decide) (by decide) h rfl rfl
 ·have:k=2\/k=3:=by lia
  rcases this with rfl|rfl
  ·exact f 3 2 1 400 (by decide) (by decide) (by decide) h rfl rfl
  ·exact f 3 3 1 400 (by decide) (by decide) (by decide) h rfl rfl
variable {gt:Option Nat} {D:Fm}
theorem x5 {fn:List Str} (h:jV D fn gt):(cK D).length<=23:=by
 have h1:=h.p4
 have h2:=h.m3
 have h3:D.gates.length<=1:=by rw [h.ga];cases gt<;>simp [gL]
 unfold cK
 simp only [GB,Gy,GL]
 lia
theorem gA {fn:List Str} (h:jV D fn gt):(bL D).length<=1500:=by
 obtain ⟨c,k,hm,hk⟩:=h.kl
 have h1:=x5 h
 have h2:=ua (l:=D.kinds) fun x hx=>C0 (hk x hx)
 have h3:=C1 hm
 unfold bL
 rw [Gy]
 lia
theorem nq {fn:List Str} (h:jV D fn gt) (hx:x∈D.kinds):EC D.places D.marks x.fs:=by
 obtain ⟨c,k,_,hk⟩:=h.kl
 obtain ⟨j,_,hj⟩:=(hk x hx).fn
 refine ⟨fun z hz=>h.nf z (by simp [hz]),fun z hz=>h.nf z (by simp [hz]),fun f hf=>?_⟩
 have:f.1∈x.fs.map (·.1):=G0.mpr ⟨f,hf,rfl⟩
 rw [hj] at this
 exact h.nf _ (GN _ (HJ this))
theorem mj {fn:List Str} (h:jV D fn gt) (hx:x∈D.kinds):dq D.width 3 x.bd:=by
 obtain ⟨c,k,hm,hk⟩:=h.kl
 have:=mY hm
 rw [(hk x hx).bd]
 exact m8 (nq h hx) (by lia) (hk x hx).dd (by lia)
theorem sE {fn:List Str} (h:jV D fn gt) (hx:x∈D.kinds):x.fs.length<=3:=by
 obtain ⟨c,k,_,hk⟩:=h.kl
 obtain ⟨j,hj,e⟩:=(hk x hx).fn
 have:=congrArg List.length e
 rw [GC,GG] at this
 lia
theorem ml {fn:List Str} (h:jV D fn gt) (hx:x∈D.kinds):∀ f∈x.fs,f.2∈dv:=by
 obtain ⟨c,k,_,hk⟩:=h.kl
 exact (hk x hx).st
theorem gB {fn:List Str} (h:jV D fn gt):∀ z∈D.gates,z∈D.marks:=by
 intro z hz
 rw [h.ga] at hz
 cases hgt:gt with
 | none=>rw [hgt] at hz;cases hz
 | some g=>
  rw [hgt] at hz
  have hgl:=h.gb g hgt
  rw [G8.mp hz,Hg,GJ hgl]
  exact Hv hgl
theorem mo {s:Str} (h:s∈dv):s∈Lu:=by
 have:∀ s∈dv,s∈Lu:=by decide +kernel
 exact this s h
theorem x6 {fs:List (Str×Str)} (h:∀ f∈fs,K4 f.1/\f.2∈dv):∀ z∈cW fs,Lg z:=by
 intro z hz
 have hz':=HJ hz
 unfold i4 at hz'
 obtain ⟨x,hx,hz'⟩:=IG.mp hz'
 simp only [GF,GH,or_false] at hz'
 rcases hz' with rfl|rfl|rfl
 ·exact .name (h x hx).1
 ·exact .word (mo (h x hx).2)
 ·exact .sign (by decide +kernel)
theorem ub {fn:List Str} (h:jV D fn gt):∀ z∈cK D,Lg z:=by
 have hc64:=h.c64
 have hw24:=h.w24
 have hd8:=h.d8
 intro z hz
 unfold cK at hz
 simp only [GP,GF,GH,or_false] at hz
 have wd:∀ z∈Lu,Lg z:=fun z hz=>.word hz
 have nm:∀ z∈D.places++D.marks,Lg z:=fun z hz=>.name (h.nf z (Hu _ hz)).1
 rcases hz with (((((rfl|rfl|rfl|rfl|rfl|rfl|rfl|rfl|rfl)|(rfl|hz)|rfl)|(rfl|hz)|rfl)|rfl)|hz)|rfl
 ·exact wd _ (by decide +kernel)
 ·exact .num (by lia)
 ·exact .sign (by decide +kernel)
 ·exact wd _ (by decide +kernel)
 ·exact .num (by lia)
 ·exact .sign (by decide +kernel)
 ·exact wd _ (by decide +kernel)
 ·exact .num (by lia)
 ·exact .sign (by decide +kernel)
 ·exact wd _ (by decide +kernel)
 ·exact nm z (Hu _ hz)
 ·exact .sign (by decide +kernel)
 ·exact wd _ (by decide +kernel)
 ·exact nm z (GN _ hz)
 ·exact .sign (by decide +kernel)
 ·exact wd _ (by decide +kernel)
 ·exact nm z (GN _ (gB h z hz))
 ·exact .sign (by decide +kernel)
theorem pb {fn:List Str} (h:jV D fn gt) (hx:x∈D.kinds):∀ z∈bF x,Lg z:=by
 intro z hz
 unfold bF at hz
 simp only [GP,GF,GH,or_false] at hz
 rcases hz with (((rfl|rfl|rfl)|hz)|rfl)|hz
 ·exact .word (by decide +kernel)
 ·exact .name (h.kf x hx).1
 ·exact .sign (by decide +kernel)
 ·exact x6 (fun f hf=>⟨((nq h hx).f f hf).1,ml h hx f hf⟩) z hz
 ·exact .sign (by decide +kernel)
 ·exact mZ h.w24 (mj h hx) z hz
theorem pc {fn:List Str} (h:jV D fn gt):∀ z∈bL D,Lg z:=by
 intro z hz
 rcases GP.mp hz with hz|hz
 ·exact ub h z hz
 ·obtain ⟨x,hx,hz⟩:=IG.mp hz
  exact pb h hx z hz
variable {z:Str} {st:Str}
theorem x9 {l:List Str} (h:l[n]?=some z):(z,st,false,n)∈fO st l:=GM (i:=n) (by rw [gu,h];rfl)
theorem EH {fs:List (Str×Str)} {j:Nat} (h:fs[j]?=some (z,st)):(z,st,true,j)∈fN fs:=GM (i:=j) (by rw [qm,h];rfl)
structure C2 (ks:List Ne) (ps ms:List Str) (fs:List (Str×Str)):Prop where
 p:∀ (n:Nat) (z:Str),ps[n]?=some z->(z,("place":Str),false,n)∈ks
 m:∀ (n:Nat) (z:Str),ms[n]?=some z->(z,("mark":Str),false,n)∈ks
 f:∀ (n:Nat) (z s:Str),fs[n]?=some (z,s)->(z,s,true,n)∈ks
theorem EI (D:Fm) (fs:List (Str×Str)):C2 (eW D++fN fs) D.places D.marks fs:=
 ⟨fun n z h=>Hu _ (Hu _ (x9 h)),fun n z h=>Hu _ (GN _ (x9 h)),fun n z s h=>GN _ (EH h)⟩
variable {ks:List Ne}
theorem iG {L:List Str} {fs:List (Str×Str)} {b:Bool} (hL:∀ (n:Nat) (z:Str),L[n]?=some z->(z,st,false,n)∈ks) (hF:∀ (n:Nat) (z s:Str),fs[n]?=some (z,s)->(z,s,true,n)∈ks) (h:cw L st fs b n):(eI L fs b n,st,b,n)∈ks:=by
 unfold cw at h
 unfold eI
 cases b with
 | true=>
  rw [if_pos rfl] at h ⊢
  obtain ⟨z,hz⟩:=h
  rw [eY hz]
  exact hF _ _ _ hz
 | false=>
  rw [if_neg (by decide)] at h ⊢
  rw [Hg,GJ h]
  exact hL _ _ (GJ h)
theorem sF {fs:List (Str×Str)} (G:C2 ks ps ms fs):∀ {m:Nat} {e:Ed},aX W ps ms fs m e->qo ks (df ps ms fs e) e
 | _,.num n,h=>.num n
 | m,.fld j,h=>by
  have h':∃ z:Str,fs[j]?=some (z,("number":Str)):=by cases m<;>simpa [aX] using h
  obtain ⟨z,hz⟩:=h'
  refine .fld (b:=true) ?_
  rw [eY hz]
  exact G.f _ _ _ hz
 | m,.pl b n,h=>by
  have h':cw ps "place" fs b n:=by cases m<;>simpa [aX] using h
  exact .pl (iG G.p G.f h')
 | m,.mk b n,h=>by
  have h':cw ms "mark" fs b n:=by cases m<;>simpa [aX] using h
  exact .mk (iG G.m G.f h')
 | 0,.cell _,h=>absurd h (by simp [aX])
 | m+1,.cell e,h=>.cell (sF G (m:=m) (e:=e) (by simpa [aX] using h))
 | 0,.two _ _ _,h=>absurd h (by simp [aX])
 | m+1,.two o x y,h=>by
  have h':o∈La/\aX W ps ms fs m x/\aX W ps ms fs m y:=by simpa [aX] using h
  exact .two h'.1 (sF G (m:=m) h'.2.1) (sF G (m:=m) h'.2.2)
theorem FW {fs:List (Str×Str)} (G:C2 ks ps ms fs) (h:eE W ps ms fs m g):AV ks (c9 ps ms fs g) g:=by
 cases g with
 | cell a e=>exact .cell (sF G h.1) (sF G h.2)
 | pl b n e=>exact .pl (iG G.p G.f h.1) (sF G h.2)
 | mk b n e=>exact .mk (iG G.m G.f h.1) (sF G h.2)
theorem FX {fs:List (Str×Str)} (G:C2 ks ps ms fs) {e:Ee} (h:lZ fs e):Cg ks (fQ fs e) e:=by
 cases e with
 | w0 s=>exact .w0 h
 | fault z=>exact .fault z
 | go s j=>
  obtain ⟨h1,z,hz⟩:=h
  refine .go (b:=true) h1 ?_
  rw [eY hz]
  exact G.f _ _ _ hz
theorem FY {fs:List (Str×Str)} (G:C2 ks ps ms fs) {t:Tt} (h:zW ps ms fs t):Ch ks (sw t) (pz ps ms fs t) t:=by
 cases t with
 | top b n=>exact .top (iG G.p G.f h)
 | pl b n=>exact .pl (iG G.p G.f h)
 | mk b n=>exact .mk (iG G.m G.f h)
theorem ya {fs:List (Str×Str)} (G:C2 ks ps ms fs):∀ {s:List Sd},(∀ g∈s,eE W ps ms fs m g)->Paired (AV ks) (s.map (c9 ps ms fs)) s
 | [],_=>.nil
 | g::r,h=>.cons (FW G (h g Gz)) (ya G fun x hx=>h x (GD _ hx))
theorem C3 {fs:List (Str×Str)} (G:C2 ks ps ms fs):∀ {c:Nat} {d:Dd},eG W ps ms fs m c d->AX ks (jd ps ms fs d) d
 | c,.leaf s e,h=>by
  have h':s.length<=4/\(s.filter Sd.isCell).length<=1/\(∀ g∈s,eE W ps ms fs m g)/\lZ fs e:=by cases c<;>exact h
  exact .leaf (ya G h'.2.2.1) (FX G h'.2.2.2)
 | 0,.ite _ _ _,h=>absurd h (by simp [eG])
 | c+1,.ite t y n,h=>.ite (FY G h.1) (C3 G (c:=c) h.2.1) (C3 G (c:=c) h.2.2)
theorem gU {w:Nat}:∀ {m:Nat} {x:Ex},ca w m x->iI x<=m
 | _,.num _,_=>Hj _
 | _,.nm _,_=>Hj _
 | 0,.cell _,h=>absurd h (by simp [ca])
 | m+1,.cell e,h=>by
  have:=gU (m:=m) (x:=e) h
  simp only [iI]
  lia
 | 0,.two _ _ _,h=>absurd h (by simp [ca])
 | m+1,.two o x y,h=>by
  have h1:=gU (m:=m) h.2.1
  have h2:=gU (m:=m) h.2.2
  simp only [iI]
  lia
theorem Aa {w:Nat} {g:Gs} (h:fG w g):xh g<=3:=by
 cases g with
 | cell a e=>
  have h1:=gU h.1
  have h2:=gU h.2
  simp only [xh]
  lia
 | nm z e=>exact gU h.2
theorem sG {w:Nat}:∀ {m:Nat} {b:Bd},dq w m b->yJ b<=m
 | _,.leaf _ _,_=>Hj _
 | 0,.ite _ _ _ _,h=>absurd h (by simp [dq])
 | m+1,.ite t z y n,h=>by
  have h1:=sG (m:=m) h.2.1
  have h2:=sG (m:=m) h.2.2
  simp only [yJ]
  lia
theorem mq {w:Nat}:∀ {m:Nat} {b:Bd},dq w m b->qp 3 b
 | m,.leaf s e,h=>by
  have h':s.length<=4/\(∀ g∈s,fG w g):=by cases m<;>exact ⟨h.1,h.2.1⟩
  exact ⟨fun g hg=>Aa (h'.2 g hg),h'.1⟩
 | 0,.ite _ _ _ _,h=>absurd h (by simp [dq])
 | m+1,.ite t z y n,h=>⟨mq (m:=m) h.2.1,mq (m:=m) h.2.2⟩
theorem kF (st:Str) (l:List Str):(fO st l).map (·.1)=l:=by
 refine List.ext_getElem? fun i=>?_
 rw [GY,gu]
 cases l[i]?<;>rfl
theorem C4 (fs:List (Str×Str)):(fN fs).map (·.1)=fs.map (·.1):=by
 refine List.ext_getElem? fun i=>?_
 rw [GY,qm,GY]
 cases fs[i]?<;>rfl
theorem C5 {fn:List Str} (h:jV D fn gt) (hx:x∈D.kinds):Ci (eW D) x:=by
 obtain ⟨c,k,hm,hk⟩:=h.kl
 have hb:=mj h hx
 refine ⟨?_,sE h hx,?_,sG hb,mq hb⟩
 ·obtain ⟨j,_,hj⟩:=(hk x hx).fn
  unfold eW
  rw [GK,GK,kF,kF,C4,hj]
  exact List.Nodup.sublist (List.Sublist.append (List.Sublist.refl _) (List.take_sublist _ _)) h.nd
 ·rw [(hk x hx).bd]
  exact C3 (EI D x.fs) (hk x hx).dd
theorem sI {fn:List Str} (h:jV D fn gt):mC D:=by
 obtain ⟨c,k,hm,hk⟩:=h.kl
 have:=mY hm
 refine ⟨?_,gB h,by rw [h.ga];cases gt<;>simp [gL],h.kn,fun x hx=>C5 h hx,h.p4,h.m3,by lia⟩
 unfold eW
 rw [GK,kF,kF]
 exact (ID.mp h.nd).1
theorem uc {fn:List Str} (h:jV D fn gt):A2 D:=by
 have:=h.c64
 have:=h.d8
 exact ⟨sI h,h.w24,by lia,by lia,fun x hx=>mj h hx,gA h,fun z hz=>by have:=(pc h z hz).le;lia⟩
variable {A B ts:List Str}
theorem bR {x:Str} {k:Nat} (e:ts=A++x::B) (h:A.length=k):(tz ts)[k]?=some x:=by
 subst e h
 unfold tz
 rw [G1,Ik (GE _)]
 simp
variable {zs:List Str}
theorem ph {k:Nat} (e:ts=A++(zs++B)) (h:A.length=k) (hn:∀ z∈zs,K4 z):qh ts k zs:=by
 intro i hi
 refine ⟨bR (A:=A++zs.take i) (B:=zs.drop (i+1)++B) ?_ ?_,hn _ (Hv hi)⟩
 ·rw [e,G1]
  congr 1
  rw [<-Ho,<-Hr hi,<-G1,Hx]
 ·rw [Gy,GG]
  lia
theorem Ab {k:Nat} (e:ts=A++(zs++B)) (h:A.length=k):At ts k zs:=by
 intro i z hz
 obtain ⟨hi,rfl⟩:=GA.mp hz
 refine bR (A:=A++zs.take i) (B:=zs.drop (i+1)++B) ?_ ?_
 ·rw [e,G1]
  congr 1
  rw [<-Ho,<-Hr hi,<-G1,Hx]
 ·rw [Gy,GG]
  lia
theorem yb:cW []=[]:=rfl
theorem jg (x:Str×Str):cW [x]=[x.1,x.2]:=rfl
theorem jh (x y:Str×Str) (r:List (Str×Str)):cW (x::y::r)=x.1::x.2::(",":Str)::cW (y::r):=by
 unfold cW
 have e:i4 (x::y::r)=[x.1,x.2,","]++i4 (y::r):=rfl
 have h1:=i5 (y::r)
 rw [e,Gy,List.take_append]
 have h2:[x.1,x.2,(",": Str)].length+(i4 (y::r)).length - 1 - [x.1,x.2,(",": Str)].length=(i4 (y::r)).length - 1:=by
  simp only [GB] at h1
  simp
  lia
 rw [h2,HF (by
  simp only [GB] at h1
  simp
  lia)]
 rfl
theorem qF:∀ (fs:List (Str×Str)) {A B ts:List Str} {k:Nat},ts=A++(cW fs++B)->A.length=k->(∀ f∈fs,K4 f.1/\f.2∈dv)->rR ts k fs
 | [],_,_,_,_,_,_,_=>fun i h=>absurd h (by simp)
 | [x],A,B,ts,k,e,h,hf=>fun i hi=>by
  have h0:i=0:=by simpa using hi
  subst h0
  rw [jg] at e
  have hx:=hf x Gz
  refine ⟨bR (A:=A) (B:=x.2::B) e h,hx.1,bR (A:=A++[x.1]) (B:=B) (by rw [e];simp) (by simp [h]),hx.2,fun hh=>absurd hh (by simp)⟩
 | x::y::r,A,B,ts,k,e,h,hf=>fun i hi=>by
  rw [jh] at e
  have hx:=hf x Gz
  cases i with
  | zero=>
   refine ⟨bR (A:=A) (B:=x.2::(",":Str)::(cW (y::r)++B)) (by rw [e];simp) h,hx.1,bR (A:=A++[x.1]) (B:=(",":Str)::(cW (y::r)++B)) (by rw [e];simp) (by simp [h]),hx.2,fun _=>bR (A:=A++[x.1,x.2]) (B:=cW (y::r)++B) (by rw [e];simp) (by simp [h])⟩
  | succ i=>
   have ih:=qF (y::r) (A:=A++[x.1,x.2,(",":Str)]) (B:=B) (ts:=ts) (k:=k+3) (by rw [e];simp) (by simp [h]) (fun f hf'=>hf f (GD _ hf')) i (by simpa using hi)
   have e1:k+3+3*i=k+3*(i+1):=by lia
   rw [e1] at ih
   refine ⟨ih.1,ih.2.1,ih.2.2.1,ih.2.2.2.1,fun hh=>ih.2.2.2.2 (by simpa using hh)⟩
theorem yc {w:Nat} {k:Nat} (e:ts=A++(bF x++B)) (h:A.length=k) (hn:K4 x.name) (hf:∀ f∈x.fs,K4 f.1/\f.2∈dv) (h3:x.fs.length<=3) (hb:dq w 3 x.bd):rS ts w k x:=by
 unfold bF at e
 have fl:=jf x.fs
 refine ⟨bR (A:=A) (B:=[x.name,("(":Str)]++cW x.fs++[(")":Str)]++cV x.bd++B) (by rw [e];simp) h,
  bR (A:=A++[("kind":Str)]) (B:=[("(":Str)]++cW x.fs++[(")":Str)]++cV x.bd++B) (by rw [e];simp) (by simp [h]),hn,
  bR (A:=A++[("kind":Str),x.name]) (B:=cW x.fs++[(")":Str)]++cV x.bd++B) (by rw [e];simp) (by simp [h]),
  qF x.fs (A:=A++[("kind":Str),x.name,("(":Str)]) (B:=[(")":Str)]++cV x.bd++B) (by rw [e];simp) (by simp [h]) hf,
  bR (A:=A++[("kind":Str),x.name,("(":Str)]++cW x.fs) (B:=cV x.bd++B) (by rw [e];simp) (by simp [h,fl];lia),h3,
  Ab (A:=A++[("kind":Str),x.name,("(":Str)]++cW x.fs++[(")":Str)]) (B:=B) (by rw [e];simp) (by simp [h,fl];lia),hb⟩
theorem C6 (x:Kn):(bF x).length=uX x:=by
 unfold bF uX
 simp only [Gy,GB,GL,jf]
 lia
theorem nr {w:Nat}:∀ (l:List Kn) {A ts:List Str} {k:Nat},ts=A++l.flatMap bF->A.length=k->(∀ x∈l,K4 x.name/\(∀ f∈x.fs,K4 f.1/\f.2∈dv)/\x.fs.length<=3/\dq w 3 x.bd)->ki ts w k l
 | [],A,ts,k,e,h,_=>by
  show k=ts.length
  rw [e]
  simp [h]
 | x::r,A,ts,k,e,h,hx=>by
  rw [HX] at e
  obtain ⟨h1,h2,h3,h4⟩:=hx x Gz
  exact ⟨yc e h h1 h2 h3 h4,nr r (A:=A++bF x) (by rw [e];simp) (by rw [Gy,C6,h]) (fun y hy=>hx y (GD _ hy))⟩
theorem Ac {fn:List Str} (h:jV D fn gt):oA (bL D) D:=by
 obtain ⟨c,k,hm,hk⟩:=h.kl
 have hmd:=mY hm
 have nP:∀ z∈D.places,K4 z:=fun z hz=>(h.nf z (by simp [hz])).1
 have nM:∀ z∈D.marks,K4 z:=fun z hz=>(h.nf z (by simp [hz])).1
 generalize hR:D.kinds.flatMap bF=R
 have e0:bL D=[("word":Str),(toString (D.width:Int):Str),(";":Str),("cells":Str),(toString (D.cells:Int):Str),(";":Str),("depth":Str),(toString (D.depth:Int):Str),(";":Str),("places":Str)]++(D.places++([(";":Str),("marks":Str)]++(D.marks++([(";":Str),("gate":Str)]++(D.gates++([(";":Str)]++R)))))):=by
  unfold bL cK
  rw [hR]
  simp
 refine ⟨bR (A:=[]) e0 rfl,bR (A:=[("word":Str)]) e0 rfl,bR (A:=[("word":Str),_]) e0 rfl,bR (A:=[("word":Str),_,(";":Str)]) e0 rfl,bR (A:=[("word":Str),_,(";":Str),("cells":Str)]) e0 rfl,bR (A:=[("word":Str),_,(";":Str),("cells":Str),_]) e0 rfl,bR (A:=[("word":Str),_,(";":Str),("cells":Str),_,(";":Str)]) e0 rfl,bR (A:=[("word":Str),_,(";":Str),("cells":Str),_,(";":Str),("depth":Str)]) e0 rfl,bR (A:=[("word":Str),_,(";":Str),("cells":Str),_,(";":Str),("depth":Str),_]) e0 rfl,bR (A:=[("word":Str),_,(";":Str),("cells":Str),_,(";":Str),("depth":Str),_,(";":Str)]) e0 rfl,
  ph e0 rfl nP,?_,?_,?_,?_,?_,?_,?_,?_,⟨h.w4,h.w24⟩,⟨h.c4,h.c64⟩,h.d8,⟨h.p1,h.p4⟩,h.m3,(sI h).g1,⟨by lia,by lia⟩⟩
 all_goals (have hW:([("word":Str),(toString (D.width:Int):Str),(";":Str),("cells":Str),(toString (D.cells:Int):Str),(";":Str),("depth":Str),(toString (D.depth:Int):Str),(";":Str),("places":Str)]:List Str).length=10:=rfl)
 all_goals (generalize ([("word":Str),(toString (D.width:Int):Str),(";":Str),("cells":Str),(toString (D.cells:Int):Str),(";":Str),("depth":Str),(toString (D.depth:Int):Str),(";":Str),("places":Str)]:List Str)=W at *)
 ·exact bR (A:=W++D.places) (B:=("marks":Str)::(D.marks++([(";":Str),("gate":Str)]++(D.gates++([(";":Str)]++R))))) (by rw [e0];simp) (by simp [hW])
 ·exact bR (A:=W++D.places++[(";":Str)]) (B:=D.marks++([(";":Str),("gate":Str)]++(D.gates++([(";":Str)]++R)))) (by rw [e0];simp) (by simp [hW];lia)
 ·exact ph (A:=W++D.places++[(";":Str),("marks":Str)]) (B:=[(";":Str),("gate":Str)]++(D.gates++([(";":Str)]++R))) (by rw [e0];simp) (by simp [hW];lia) nM
 ·exact bR (A:=W++D.places++[(";":Str),("marks":Str)]++D.marks) (B:=("gate":Str)::(D.gates++([(";":Str)]++R))) (by rw [e0];simp) (by simp [hW];lia)
 ·exact bR (A:=W++D.places++[(";":Str),("marks":Str)]++D.marks++[(";":Str)]) (B:=D.gates++([(";":Str)]++R)) (by rw [e0];simp) (by simp [hW];lia)
 ·exact ph (A:=W++D.places++[(";":Str),("marks":Str)]++D.marks++[(";":Str),("gate":Str)]) (B:=[(";":Str)]++R) (by rw [e0];simp) (by simp [hW];lia) (fun z hz=>nM z (gB h z hz))
 ·exact bR (A:=W++D.places++[(";":Str),("marks":Str)]++D.marks++[(";":Str),("gate":Str)]++D.gates) (B:=R) (by rw [e0];simp) (by simp [hW];lia)
 ·subst hR
  refine nr D.kinds (A:=W++D.places++[(";":Str),("marks":Str)]++D.marks++[(";":Str),("gate":Str)]++D.gates++[(";":Str)]) (by rw [e0];simp) (by simp [hW];lia) (fun x hx=>⟨(h.kf x hx).1,fun f hf=>⟨((nq h hx).f f hf).1,ml h hx f hf⟩,sE h hx,mj h hx⟩)
variable {s:List Nat}
theorem jO (hs:s=[]\/∃ c r,s=c::r/\TK.dI c=true):∀ ts:List (List Nat),ts≠[]->(∀ t∈ts,TK.Tok t)->TK.toks (TK.jn [32] ts++s)=ts++TK.toks s
 | [],h,_=>absurd rfl h
 | [t],_,h=>TK.pR (h t Gz) hs
 | t::u::r,_,h=>by
  have ih:=jO hs (u::r) (by simp) (fun x hx=>h x (GD _ hx))
  show TK.toks ((t++(32::TK.jn [32] (u::r)))++s)=_
  rw [G1,Ho,TK.pR (h t Gz) (.inr ⟨32,_,rfl,rfl⟩),TK.iO (show TK.dI 32=true from rfl),ih]
  rfl
theorem mr:∀ gs:List (List (List Nat)),(∀ g∈gs,g≠[]/\∀ t∈g,TK.Tok t)->TK.toks (TK.jn [10] (gs.map (TK.jn [32])))=gs.flatten
 | [],_=>rfl
 | [g],h=>by
  have hg:=h g Gz
  have:=jO (s:=[]) (.inl rfl) g hg.1 hg.2
  rw [Hw] at this
  show TK.toks (TK.jn [32] g)=_
  rw [this]
  simp [TK.kT]
 | g::k::r,h=>by
  have hg:=h g Gz
  have ih:=mr (k::r) (fun x hx=>h x (GD _ hx))
  show TK.toks (TK.jn [32] g++(10::TK.jn [10] ((k::r).map (TK.jn [32]))))=_
  rw [jO (.inr ⟨10,_,rfl,rfl⟩) g hg.1 hg.2,TK.iO (show TK.dI 10=true from rfl),ih]
  rfl
def Ad (D:Fm):List (List Str):=cK D::D.kinds.map bF
theorem sJ (D:Fm):∀ g∈Ad D,g≠[]:=by
 intro g hg
 rcases GF.mp hg with rfl|hg
 ·simp [cK]
 ·obtain ⟨x,_,rfl⟩:=G0.mp hg
  simp [bF]
theorem ji (D:Fm):(Ad D).flatten=bL D:=by
 unfold Ad bL
 rw [IE,List.flatMap_def]
theorem ud (D:Fm):eD D D.kinds=(Ad D).map au:=by
 unfold eD Ad
 rw [GO,Hz]
 rfl
theorem nu (h:∀ z∈bL D,Lg z):TK.toks (c8 D)=(bL D).map cp:=by
 unfold c8
 rw [ud]
 have:=mr ((Ad D).map fun g=>g.map cp) (fun g hg=>by
  obtain ⟨g0,hg0,rfl⟩:=G0.mp hg
  refine ⟨by simpa using sJ D g0 hg0,fun t ht=>?_⟩
  obtain ⟨z,hz,rfl⟩:=G0.mp ht
  exact (h z (by rw [<-ji];exact List.mem_flatten.mpr ⟨g0,hg0,hz⟩)).tok)
 rw [Hz] at this
 have e:((Ad D).map fun g=>g.map cp).flatten=(bL D).map cp:=by
  rw [<-ji,List.map_flatten]
 rw [e] at this
 exact this
theorem EJ (h:Lg z) (hc:TK.dI c=true):c∉cp z:=fun hm=>by
 have:=h.tok.ng c hm
 rw [hc] at this
 cases this
variable {sep:List Nat}
theorem yd (hs:c∉sep):∀ {ts:List (List Nat)},(∀ t∈ts,c∉t)->c∉TK.jn sep ts
 | [],_=>by simp [TK.jn]
 | [t],h=>h t Gz
 | t::u::r,h=>by
  have ih:=yd hs (ts:=u::r) (fun x hx=>h x (GD _ hx))
  show c∉t++(sep++TK.jn sep (u::r))
  rw [GP,GP]
  rintro (h1|h1|h1)
  ·exact h t Gz h1
  ·exact hs h1
  ·exact ih h1
theorem vB (h:∀ z∈zs,Lg z):10∉au zs:=by
 unfold au
 refine yd (by decide) fun t ht=>?_
 obtain ⟨z,hz,rfl⟩:=G0.mp ht
 exact EJ (h z hz) rfl
theorem ye {ts:List (List Nat)} (h:ts≠[]) (hn:∀ t∈ts,t≠[]):TK.jn sep ts≠[]:=by
 cases ts with
 | nil=>exact absurd rfl h
 | cons t r=>
  have ht:=hn t Gz
  cases r with
  | nil=>exact ht
  | cons u r=>
   show t++_≠[]
   simp [ht]
theorem ue (h:zs≠[]) (ht:∀ z∈zs,Lg z):au zs≠[]:=by
 unfold au
 refine ye (by simpa using h) fun t hm=>?_
 obtain ⟨z,hz,rfl⟩:=G0.mp hm
 exact (ht z hz).tok.ne
theorem uf (D:Fm):bL D≠[]:=by simp [bL,cK]
theorem nv (h:∀ z∈bL D,Lg z):Txt.replace (S (c8 D)) (S [10]) (S [32])=S (au (bL D)):=by
 have hg:∀ g∈Ad D,∀ z∈g,Lg z:=fun g hg z hz=>h z (by rw [<-ji];exact List.mem_flatten.mpr ⟨g,hg,hz⟩)
 have e:=StrLaws.replace_one (S (c8 D)) (S [32]) 10
 have e1:(⟨#[10]⟩:Str)=S [10]:=rfl
 rw [e1] at e
 rw [e]
 unfold c8
 rw [ud,qw 10 _ ?_ ?_,gx,fq _ (sJ D),ji]
 ·refine ye (by simp [Ad]) fun t ht=>?_
  obtain ⟨g,hg',rfl⟩:=G0.mp ht
  exact ue (sJ D g hg') (hg g hg')
 ·intro t ht
  obtain ⟨g,hg',rfl⟩:=G0.mp ht
  exact vB (hg g hg')
theorem sK (h:∀ z∈bL D,Lg z):Txt.split (S (au (bL D))) (S [32])=bL D:=by
 have:=qw 32 ((bL D).map cp) (ue (uf D) h) (fun t ht=>by
  obtain ⟨z,hz,rfl⟩:=G0.mp ht
  exact EJ (h z hz) rfl)
 rw [lU] at this
 exact this
theorem mt (z:Str):(cp z).length=z.length:=by unfold cp;simp [Str.length]
theorem qG (h:∀ z∈bL D,Lg z) (hl:(bL D).length<=1500):(c8 D).length<=15000:=by
 have h1:(c8 D).length=(au (bL D)).length:=by
  have:=congrArg (fun z=>(cp z).length) (nv h)
  simp only [fh] at this
  rw [<-this,mt]
  have:=wm (S (c8 D)) 10 32
  have e1:(⟨#[10]⟩:Str)=S [10]:=rfl
  have e2:(⟨#[32]⟩:Str)=S [32]:=rfl
  rw [e1,e2] at this
  rw [this,aG]
 have h2:=bC h
 lia
def Fc (y z:Str):Prop:=cp y=[60]->(cp z).head?≠some 60
def Nl:List Str->Prop
 | []=>True
 | [z]=>cp z≠[60]
 | z::u::r=>Fc z u/\Nl (u::r)
theorem bT:∀ {a b:List Str},Nl a->Nl b->Nl (a++b)
 | [],_,_,h=>h
 | [z],[],h,_=>h
 | [z],u::r,h,hb=>⟨fun e=>absurd e h,hb⟩
 | z::u::r,b,h,hb=>⟨h.1,bT (a:=u::r) h.2 hb⟩
theorem dk:∀ {l:List Str},(∀ z∈l,cp z≠[60])->Nl l
 | [],_=>trivial
 | [z],h=>h z Gz
 | z::u::r,h=>⟨fun e=>absurd e (h z Gz),dk (l:=u::r) fun x hx=>h x (GD _ hx)⟩
theorem EK {o u:Str} {r:List Str} (h:Nl (u::r)) (hu:(cp u).head?≠some 60):Nl (o::u::r):=⟨fun _=>hu,h⟩
theorem Bc:∀ {l:List Str},Nl l->∀ {i:Nat} {y z:Str},l[i]?=some y->l[i+1]?=some z->Fc y z
 | [],_,i,y,z,h,_=>by simp at h
 | [x],_,i,y,z,_,h=>by simp at h
 | x::u::r,hl,0,y,z,h1,h2=>by
  simp at h1 h2
  subst h1 h2
  exact hl.1
 | x::u::r,hl,i+1,y,z,h1,h2=>Bc (l:=u::r) hl.2 (i:=i) (by simpa using h1) (by simpa using h2)
theorem cS (h:∀ c∈cp z,dj c):cp z≠[60]:=fun e=>by
 have:=h 60 (by rw [e];simp)
 unfold dj at this
 lia
theorem yf (h:∀ c∈cp z,dj c):(cp z).head?≠some 60:=fun e=>by
 have hm:60∈cp z:=List.mem_of_mem_head? e
 have:=h 60 hm
 unfold dj at this
 lia
theorem dG (h:K4 z):∀ c∈cp z,dj c:=fun c hc=>.inl (h.2.2.2 c hc)
theorem jk (n:Nat):∀ c∈cp (toString (n:Int):Str),dj c:=by
 have e:cp (toString (n:Int):Str)=dg n:=by rw [gm,fh]
 intro c hc
 rw [e] at hc
 exact .inr (jG n c hc)
theorem vC:∀ z∈Lu,cp z≠[60]:=by decide +kernel
theorem EL {w:Nat}:∀ {m:Nat} {x:Ex},ca w m x->∃ u r,bP x=u::r/\(cp u).head?≠some 60
 | _,.num n,_=>⟨_,_,rfl,yf (jk n)⟩
 | m,.nm z,h=>⟨_,_,rfl,yf (dG (by cases m<;>exact h))⟩
 | _,.cell e,_=>⟨_,_,rfl,by decide +kernel⟩
 | _,.two o x y,_=>⟨_,_,rfl,by decide +kernel⟩
theorem nw {w:Nat}:∀ {m:Nat} {x:Ex},ca w m x->Nl (bP x)
 | _,.num n,_=>cS (jk n)
 | m,.nm z,h=>cS (dG (by cases m<;>exact h))
 | 0,.cell _,h=>absurd h (by simp [ca])
 | m+1,.cell e,h=>bT (a:=[("[":Str)]) (dk (by decide +kernel)) (bT (nw (m:=m) (x:=e) h) (dk (by decide +kernel)))
 | 0,.two _ _ _,h=>absurd h (by simp [ca])
 | m+1,.two o x y,h=>by
  obtain ⟨u,r,e,hu⟩:=EL (m:=m) h.2.2
  have hy:=nw (m:=m) h.2.2
  have h1:Nl (o::(bP y++[(")":Str)])):=by
   rw [e] at hy ⊢
   exact EK (bT hy (dk (by decide +kernel))) hu
  exact bT (a:=[("(":Str)]) (dk (by decide +kernel)) (bT (nw (m:=m) h.2.1) h1)
theorem EM {w:Nat} {g:Gs} (h:fG w g):Nl (gW g):=by
 cases g with
 | cell a e=>
  exact bT (a:=[("[":Str)]) (dk (by decide +kernel)) (bT (nw h.1) (bT (a:=[("]":Str),("=":Str)]) (dk (by decide +kernel)) (bT (nw h.2) (dk (by decide +kernel)))))
 | nm z e=>
  refine bT (a:=[z,("=":Str)]) (dk ?_) (bT (nw h.2) (dk (by decide +kernel)))
  intro y hy
  simp only [GF,GH,or_false] at hy
  rcases hy with rfl|rfl
  ·exact cS (dG h.1)
  ·decide +kernel
theorem uh {w:Nat}:∀ {s:List Gs},(∀ g∈s,fG w g)->Nl (bE s)
 | [],_=>trivial
 | g::r,h=>bT (a:=[("set":Str)]) (dk (by decide +kernel)) (bT (EM (h g Gz)) (uh fun x hx=>h x (GD _ hx)))
theorem EQ {e:En} (h:lJ e):Nl (fH e):=by
 cases e with
 | w0 s=>
  have:∀ z∈([("next":Str),("back":Str),("stop":Str)]:List Str),cp z≠[60]:=by decide +kernel
  exact this s h
 | w1 s z=>
  have:∀ z∈([("go":Str),("call":Str),("fault":Str)]:List Str),cp z≠[60]:=by decide +kernel
  refine dk fun y hy=>?_
  simp only [fH,GF,GH,or_false] at hy
  rcases hy with rfl|rfl
  ·exact this _ h.1
  ·exact cS (dG h.2.1)
theorem yg {w:Nat}:∀ {m:Nat} {b:Bd},dq w m b->Nl (cV b)
 | m,.leaf s e,h=>by
  have h':(∀ g∈s,fG w g)/\lJ e:=by cases m<;>exact ⟨h.2.1,h.2.2.2⟩
  exact bT (a:=[("{":Str)]) (dk (by decide +kernel)) (bT (uh h'.1) (bT (EQ h'.2) (dk (by decide +kernel))))
 | 0,.ite _ _ _ _,h=>absurd h (by simp [dq])
 | m+1,.ite t z y n,h=>by
  refine bT (a:=[("{":Str),("if":Str)]) (dk (by decide +kernel)) (bT (dk ?_) (bT (yg (m:=m) h.2.1) (bT (a:=[("else":Str)]) (dk (by decide +kernel)) (bT (yg (m:=m) h.2.2) (dk (by decide +kernel))))))
  intro y hy
  have hz:=cS (dG h.1)
  split at hy
  ·simp only [GF,GH,or_false] at hy
   rcases hy with rfl|rfl
   ·decide +kernel
   ·exact hz
  ·rw [G8.mp hy];exact hz
theorem Ae {fn:List Str} (h:jV D fn gt) (hx:x∈D.kinds):Nl (bF x):=by
 unfold bF
 refine bT (dk ?_) (yg (mj h hx))
 intro z hz
 simp only [GP,GF,GH,or_false] at hz
 rcases hz with ((rfl|rfl|rfl)|hz)|rfl
 ·decide +kernel
 ·exact cS (dG (h.kf x hx).1)
 ·decide +kernel
 ·have hz':=HJ hz
  unfold i4 at hz'
  obtain ⟨f,hf,hz'⟩:=IG.mp hz'
  simp only [GF,GH,or_false] at hz'
  rcases hz' with rfl|rfl|rfl
  ·exact cS (dG ((nq h hx).f f hf).1)
  ·exact vC _ (mo (ml h hx f hf))
  ·decide +kernel
 ·decide +kernel
theorem Af {fn:List Str} (h:jV D fn gt):Nl (cK D):=by
 refine dk fun z hz=>?_
 unfold cK at hz
 simp only [GP,GF,GH,or_false] at hz
 have nm:∀ z∈D.places++D.marks,cp z≠[60]:=fun z hz=>cS (dG (h.nf z (Hu _ hz)).1)
 rcases hz with (((((rfl|rfl|rfl|rfl|rfl|rfl|rfl|rfl|rfl)|(rfl|hz)|rfl)|(rfl|hz)|rfl)|rfl)|hz)|rfl
 ·decide +kernel
 ·exact cS (jk _)
 ·decide +kernel
 ·decide +kernel
 ·exact cS (jk _)
 ·decide +kernel
 ·decide +kernel
 ·exact cS (jk _)
 ·decide +kernel
 ·decide +kernel
 ·exact nm z (Hu _ hz)
 ·decide +kernel
 ·decide +kernel
 ·exact nm z (GN _ hz)
 ·decide +kernel
 ·decide +kernel
 ·exact nm z (GN _ (gB h z hz))
 ·decide +kernel
theorem qH:∀ {l:List Kn},(∀ x∈l,Nl (bF x))->Nl (l.flatMap bF)
 | [],_=>trivial
 | x::r,h=>by
  rw [HX]
  exact bT (h x Gz) (qH fun y hy=>h y (GD _ hy))
theorem Ag {fn:List Str} (h:jV D fn gt):Nl (bL D):=bT (Af h) (qH fun x hx=>Ae h hx)
def qI (z:Str):Bool:=match cp z with
 | []=>false
 | c::_=>(decide (97<=c) && decide (c<=122)) || (decide (48<=c) && decide (c<=57))
theorem Ah (h:Lg z) (hw:qI z=true):∀ c∈cp z,dj c:=by
 rcases h.cl with h'|h'
 ·exact h'
 ·exfalso
  unfold qI at hw
  revert hw
  generalize cp z=t at h'
  revert t
  decide +kernel
theorem ui (h:Lg z) (hw:qI z=false):cp z∈qA:=by
 rcases h.cl with h'|h'
 ·exfalso
  unfold qI at hw
  have Jb:=h.tok.ne
  cases e:cp z with
  | nil=>exact Jb e
  | cons c r=>
   rw [e] at hw
   have:=h' c (by rw [e];simp)
   unfold dj at this
   simp at hw
   lia
 ·exact h'
theorem Ai {t s:List Nat} (h:t∈qA):TK.fM (t++s)≠0:=by
 unfold qA at h
 simp only [GF,GH,or_false] at h
 have one:∀ c:Nat,TK.cZ c=true->TK.fM (c::s)≠0:=by
  intro c hc
  cases s with
  | nil=>rw [TK.dC,hc];decide
  | cons d r=>
   rw [TK.cq,hc]
   split<;>simp
 rcases h with rfl|rfl|rfl|rfl|rfl|rfl|rfl|rfl|rfl|rfl|rfl|rfl|rfl|rfl|rfl|rfl|rfl
 case inr.inr.inr.inr.inr.inr.inr.inr.inr.inr.inr.inr.inr.inr.inl=>show TK.fM (60::60::s)≠0;rw [TK.cq];simp
 case inr.inr.inr.inr.inr.inr.inr.inr.inr.inr.inr.inr.inr.inr.inr.inl=>show TK.fM (62::62::s)≠0;rw [TK.cq];simp
 all_goals exact one _ (by decide)
theorem uj:∀ {t s:List Nat},(∀ c∈t,dj c)->TK.fM s≠0->TK.run (t++s)=t.length
 | [],s,_,hs=>by
  cases s with
  | nil=>exact absurd rfl hs
  | cons c r=>
   show TK.run (c::r)=0
   rw [TK.cg]
   simp [hs]
 | c::r,s,h,hs=>by
  have hc:=h c Gz
  have ih:=uj (t:=r) (fun d hd=>h d (GD _ hd)) hs
  rw [Ho,TK.cg,oX hc,kB hc,if_neg (by simp),ih,GB]
  lia
def Aj (y:Str) (s:List Nat):Prop:=TK.one (cp y++s)=(cp y).length
variable {y:Str}
theorem qJ (h:Lg y) (hc:Aj y s):TK.toks (cp y++s)=cp y::TK.toks s:=by
 unfold Aj at hc
 have Jb:=h.tok.ne
 have hng:=h.tok.ng
 generalize cp y=t at hc Jb hng
 cases t with
 | nil=>exact absurd rfl Jb
 | cons c r=>
  have g:=hng c Gz
  rw [Ho] at hc ⊢
  rw [TK.kU g,hc]
  have e1:(c::(r++s)).take (c::r).length=c::r:=by rw [<-Ho,List.take_left'];rfl
  have e2:(c::(r++s)).drop (c::r).length=s:=by rw [<-Ho,List.drop_left'];rfl
  rw [e1,e2]
theorem uk (h:Lg y) (hs:s=[]\/∃ c r,s=c::r/\TK.dI c=true):Aj y s:=h.tok.cut s hs
theorem yh (h:cp y∈qA) (h6:cp y=[60]->s.head?≠some 60):Aj y s:=by
 unfold Aj
 generalize cp y=t at h h6
 have hsg:TK.fM (t++s)=t.length:=by
  unfold qA at h
  simp only [GF,GH,or_false] at h
  have one:∀ c:Nat,TK.cZ c=true->c≠60->c≠62->TK.fM (c::s)=1:=by
   intro c hc h1 h2
   cases s with
   | nil=>rw [TK.dC,hc];rfl
   | cons d r=>
    rw [TK.cq,hc,if_neg (by simp [h1,h2])]
    rfl
  rcases h with rfl|rfl|rfl|rfl|rfl|rfl|rfl|rfl|rfl|rfl|rfl|rfl|rfl|rfl|rfl|rfl|rfl
  case inr.inr.inr.inr.inr.inr.inr.inr.inr.inr.inr.inr.inr.inr.inl=>show TK.fM (60::60::s)=2;rw [TK.cq];simp
  case inr.inr.inr.inr.inr.inr.inr.inr.inr.inr.inr.inr.inr.inr.inr.inl=>show TK.fM (62::62::s)=2;rw [TK.cq];simp
  case inr.inr.inr.inr.inr.inr.inr.inr.inr.inr.inr.inr.inr.inr.inr.inr=>
   have h7:=h6 rfl
   show TK.fM (60::s)=1
   cases s with
   | nil=>rfl
   | cons d r=>
    have hd:d≠60:=fun e=>h7 (by rw [e];rfl)
    rw [TK.cq,if_neg (by simp [hd])]
    rfl
  all_goals exact one _ (by decide) (by decide) (by decide)
 have hl:t.length≠0:=by
  intro e
  have:t=[]:=HP.mp e
  subst this
  revert h
  decide
 unfold TK.one
 rw [if_neg (by lia),hsg]
theorem yi (h:∀ c∈cp y,dj c) (Jb:cp y≠[]) (hz:cp z∈qA):Aj y (cp z++s):=by
 unfold Aj
 have hs:=Ai (s:=s) hz
 have hr:=uj h hs
 have h0:TK.fM (cp y++(cp z++s))=0:=by
  cases e:cp y with
  | nil=>exact absurd e Jb
  | cons c r=>exact kB (h c (by rw [e];simp)) _
 unfold TK.one
 rw [if_pos h0,hr]
theorem yj {g s:List Nat} (hy:Lg y) (hz:Lg z) (hg:∀ c∈g,TK.dI c=true) (hw:qI y=true->qI z=true->g≠[]) (ho:Fc y z):Aj y (g++(cp z++s)):=by
 cases g with
 | cons c r=>exact uk hy (.inr ⟨c,_,rfl,hg c Gz⟩)
 | nil=>
  rw [Ig]
  cases ey:qI y with
  | false=>
   refine yh (ui hy ey) fun e=>?_
   have:=ho e
   have Jb:=hz.tok.ne
   cases e2:cp z with
   | nil=>exact absurd e2 Jb
   | cons c r=>rw [e2] at this;exact this
  | true=>
   cases ez:qI z with
   | true=>exact absurd rfl (hw ey ez)
   | false=>exact yi (Ah hy ey) hy.tok.ne (ui hz ez)
inductive vG:List Str->List Nat->Prop
 | nil {g:List Nat}:(∀ c∈g,TK.dI c=true)->vG [] g
 | fst {g:List Nat} {z:Str}:(∀ c∈g,TK.dI c=true)->Lg z->vG [z] (g++cp z)
 | snoc {ts:List Str} {y z:Str} {l g:List Nat}:vG (ts++[y]) l->(∀ c∈g,TK.dI c=true)->Lg y->Lg z->(qI y=true->qI z=true->g≠[])->Fc y z->vG (ts++[y]++[z]) (l++g++cp z)
theorem yk {l:List Nat} (h:vG ts l):∀ {z:Str} {ts0:List Str} {s:List Nat},ts=ts0++[z]->Aj z s->TK.toks (l++s)=ts.map cp++TK.toks s:=by
 induction h with
 | nil hg=>
  intro z ts0 s e _
  simp at e
 | @fst g z' hg hz=>
  intro z ts0 s e hc
  have e':ts0=[]/\z'=z:=by
   have:=List.append_inj' (s₁:=[]) (t₁:=[z']) (s₂:=ts0) (t₂:=[z]) e rfl
   exact ⟨this.1.symm,by simpa using this.2⟩
  obtain ⟨rfl,rfl⟩:=e'
  rw [G1,TK.gF g _ hg,qJ hz hc]
  rfl
 | @snoc ts1 y z' l1 g h1 hg hy hz hw ho ih=>
  intro z ts0 s e hc
  have e':=List.append_inj' (s₁:=ts1++[y]) (t₁:=[z']) (s₂:=ts0) (t₂:=[z]) e rfl
  obtain rfl:z'=z:=by simpa using e'.2
  have h2:=ih (z:=y) (ts0:=ts1) (s:=g++(cp z'++s)) rfl (yj hy hz hg hw ho)
  have e3:l1++g++cp z'++s=l1++(g++(cp z'++s)):=by simp
  rw [e3,h2,TK.gF g _ hg,qJ hz hc]
  simp
theorem Ak {l tl:List Nat} (h:vG ts l) (Jb:ts≠[]) (ht:∀ z∈ts,Lg z) (hg:∀ c∈tl,TK.dI c=true):TK.toks (l++tl)=ts.map cp:=by
 obtain ⟨ts0,z,rfl⟩:∃ ts0 z,ts=ts0++[z]:=⟨ts.dropLast,ts.getLast Jb,(List.dropLast_concat_getLast Jb).symm⟩
 have e:tl=[]\/∃ c r,tl=c::r/\TK.dI c=true:=by
  cases tl with
  | nil=>exact .inl rfl
  | cons c r=>exact .inr ⟨c,r,rfl,hg c Gz⟩
 rw [yk h rfl (uk (ht z (by simp)) e)]
 have:=TK.gF tl [] hg
 rw [Hw] at this
 rw [this]
 simp [TK.kT]
end L3
namespace L2
open PySem PySem.Spec PyProof.Rows
variable {s:Shared} {M:Model}
theorem jP {Γ:PySem.Ctx} {p:Pos} {t:Sem Fin} {fs:List Frame} {e:End} {s':Shared} (h:Runs M Γ p t fs s e s'):s.toks<=s'.toks:=by
 induction h
 all_goals (first
  | exact GE _
  | assumption
  | lia
  | (simp only [Shared.setGen] at *;lia)
  | (dsimp only [Shared.setGen] at *;lia))
variable {α:Type}
theorem Al (M:Model) (Γ:PySem.Ctx) (t:Sem α):∀ (Q:α->Pos->Shared->Prop) (E:Value->Pos->Shared->Prop) (p:Pos) (s:Shared),Sem.wp M Γ t Q E p s->
  Sem.wp M Γ t (fun a p' s'=>Q a p' s'/\s.toks<=s'.toks) (fun a p' s'=>E a p' s'/\s.toks<=s'.toks) p s:=by
 have up:∀ {t:Sem α} {Q:α->Pos->Shared->Prop} {E:Value->Pos->Shared->Prop} {p:Pos} {s s1:Shared},s.toks<=s1.toks->Sem.wp M Γ t (fun a p' s'=>Q a p' s'/\s1.toks<=s'.toks) (fun a p' s'=>E a p' s'/\s1.toks<=s'.toks) p s1->
   Sem.wp M Γ t (fun a p' s'=>Q a p' s'/\s.toks<=s'.toks) (fun a p' s'=>E a p' s'/\s.toks<=s'.toks) p s1:=fun {t Q E p s s1} hs h=>
  Sem.wp_mono M Γ t (fun a _ s' h'=>⟨h'.1,Hl hs h'.2⟩) (fun a _ s' h'=>⟨h'.1,Hl hs h'.2⟩) p s1 h
 induction t with
 | pure a=>intro Q E p s h;rw [Sem.wp] at h ⊢;exact ⟨h,GE _⟩
 | raise e=>intro Q E p s h;rw [Sem.wp] at h ⊢;exact ⟨h,GE _⟩
 | unsupported w=>intro Q E p s h;rw [Sem.wp] at h;exact h.elim
 | finish e=>intro Q E p s h;rw [Sem.wp] at h;exact h.elim
 | rule tag k ih=>intro Q E p s h;rw [Sem.wp] at h ⊢;exact ih _ _ _ _ _ h
 | «at» pos k ih=>intro Q E p s h;rw [Sem.wp] at h ⊢;exact ih _ _ _ _ _ h
 | load a part k ih=>intro Q E p s h;rw [Sem.wp] at h ⊢;obtain ⟨o,e,h⟩:=h;exact ⟨o,e,ih _ _ _ _ _ h⟩
 | update a part f k ih=>intro Q E p s h;rw [Sem.wp] at h ⊢;obtain ⟨e,h⟩:=h;exact ⟨e,up (s1:={ s with heap:=s.heap.update a f }) (GE _) (ih _ _ _ _ _ h)⟩
 | alloc o k ih=>intro Q E p s h;rw [Sem.wp] at h ⊢;exact up (s1:={ s with heap:=s.heap.push o }) (GE _) (ih _ _ _ _ _ h)
 | loadIfAlive a k ih=>intro Q E p s h;rw [Sem.wp] at h ⊢;exact ih _ _ _ _ _ h
 | point live k ih=>intro Q E p s h;rw [Sem.wp] at h ⊢;exact ih _ _ _ _ _ h
 | register a k ih=>intro Q E p s h;rw [Sem.wp] at h;exact h.elim
 | fresh k ih=>intro Q E p s h;rw [Sem.wp] at h ⊢;exact up (s1:={ s with toks:=s.toks+1 }) (Nat.le_succ _) (ih _ _ _ _ _ h)
 | ask k ih=>intro Q E p s h;rw [Sem.wp] at h ⊢;exact ih _ _ _ _ _ h
 | choose src n k ih=>intro Q E p s h;rw [Sem.wp] at h ⊢;obtain ⟨e,h⟩:=h;exact ⟨e,up (s1:={ s with drawn:=s.drawn.bump src }) (GE _) (ih _ _ _ _ _ h)⟩
 | os req live k ih=>intro Q E p s h;rw [Sem.wp] at h ⊢;exact up (s1:={ s with os:=(Os.step s.os req).1 }) (GE _) (ih _ _ _ _ _ h)
 | call c hd g live k ih=>
  intro Q E p s h
  rw [Sem.wp] at h ⊢
  obtain ⟨r,s1,hr,h⟩:=h
  exact ⟨r,s1,hr,up (jP hr) (ih _ _ _ _ _ h)⟩
 | handled own k ih=>intro Q E p s h;rw [Sem.wp] at h ⊢;exact ih _ _ _ _ _ h
 | newGen c k ih=>intro Q E p s h;rw [Sem.wp] at h ⊢;exact up (s1:={ s with gens:=s.gens.push (.fresh c) }) (GE _) (ih _ _ _ _ _ h)
 | genState g k ih=>intro Q E p s h;rw [Sem.wp] at h ⊢;obtain ⟨o,e,h⟩:=h;exact ⟨o,e,ih _ _ _ _ _ h⟩
 | resume g r live k ih=>
  intro Q E p s h
  rw [Sem.wp] at h ⊢
  obtain ⟨res,s1,hw,h⟩:=h
  refine ⟨res,s1,hw,up ?_ (ih _ _ _ _ _ h)⟩
  unfold Wakes at hw
  split at hw
  ·exact hw.elim
  ·split at hw
   ·obtain ⟨e1,s2,h1,_,_,rfl⟩:=hw
    have:=jP h1
    simp only [Shared.setGen] at *
    exact this
   ·rw [hw.2];exact GE _
   ·rw [hw.2];exact GE _
  ·obtain ⟨e1,s2,h1,_,_,rfl⟩:=hw
   have:=jP h1
   simp only [Shared.setGen] at *
   exact this
  all_goals (first|exact hw.elim|(obtain ⟨_,rfl⟩:=hw;exact GE _)|(rw [hw.2];exact GE _))
 | yield v g live k ih=>intro Q E p s h;rw [Sem.wp] at h;exact h.elim
 | stack k ih=>intro Q E p s h;rw [Sem.wp] at h ⊢;exact ih _ _ _ _ _ h
 | fork c k ih=>intro Q E p s h;rw [Sem.wp] at h;exact h.elim
 | thread k ih=>intro Q E p s h;rw [Sem.wp] at h ⊢;exact ih _ _ _ _ _ h
 | await a take timed live k ih=>intro Q E p s h;rw [Sem.wp] at h;exact h.elim
theorem yl {α:Type} {t:Sem α} {Q Q':α->Shared->Prop} {A:Around} {E:Value->Shared->Prop} (h:wpAny M A t Q E s) (hQ:∀ a s',s.toks<=s'.toks->Q a s'->Q' a s'):wpAny M A t Q' E s:=fun Γ p hΓ=>
 Sem.wp_mono M Γ t (fun a _ s' h'=>hQ a s' h'.2 h'.1) (fun _ _ _ h'=>h'.1) p s (Al M Γ t _ _ p s (h Γ p hΓ))
structure Nt (X:Cx) (e:Expr) (t:TE):Prop where
 run:∀ (IP:List (Addr×Obj)) (s:Shared) (σ:St) (H:Hp) (Q:VK),KQ X IP σ H s->t σ H Q->wpAny (model X.prog X.w) X.A (eval e X.env) (fun v s'=>1<=s'.toks/\EP X IP σ Q v s') X.xe s
instance {X:Cx} {e:Expr} {t:TE}:CoeFun (Nt X e t) fun _=>∀ (IP:List (Addr×Obj)) (s:Shared) (σ:St) (H:Hp) (Q:VK),KQ X IP σ H s->t σ H Q->wpAny (model X.prog X.w) X.A (eval e X.env) (fun v s'=>1<=s'.toks/\EP X IP σ Q v s') X.xe s:=⟨Nt.run⟩
structure PAb (X:Cx) (es:List Expr) (t:TA):Prop where
 run:∀ (pos:Pos) (IP:List (Addr×Obj)) (s:Shared) (σ:St) (H:Hp) (Q:List V->Hp->Prop),KQ X IP σ H s->t σ H Q->wpAny (model X.prog X.w) X.A (spliced (backTo pos (starEach es X.env))) (fun v s'=>1<=s'.toks/\AP X IP σ Q v s') X.xe s
instance {X:Cx} {es:List Expr} {t:TA}:CoeFun (PAb X es t) fun _=>∀ (pos:Pos) (IP:List (Addr×Obj)) (s:Shared) (σ:St) (H:Hp) (Q:List V->Hp->Prop),KQ X IP σ H s->t σ H Q->wpAny (model X.prog X.w) X.A (spliced (backTo pos (starEach es X.env))) (fun v s'=>1<=s'.toks/\AP X IP σ Q v s') X.xe s:=⟨PAb.run⟩
structure NS (X:Cx) (st:Stmt) (t:TS):Prop where
 run:∀ (IP:List (Addr×Obj)) (s:Shared) (σ:St) (H:Hp) (D:dJ),KQ X IP σ H s->t D σ H->wpAny (model X.prog X.w) X.A (exec st X.env) (fun v s'=>1<=s'.toks/\SP X IP D v s') X.xe s
instance {X:Cx} {st:Stmt} {t:TS}:CoeFun (NS X st t) fun _=>∀ (IP:List (Addr×Obj)) (s:Shared) (σ:St) (H:Hp) (D:dJ),KQ X IP σ H s->t D σ H->wpAny (model X.prog X.w) X.A (exec st X.env) (fun v s'=>1<=s'.toks/\SP X IP D v s') X.xe s:=⟨NS.run⟩
structure Nz (X:Cx) (st:List Stmt) (t:TS):Prop where
 run:∀ (IP:List (Addr×Obj)) (s:Shared) (σ:St) (H:Hp) (D:dJ),KQ X IP σ H s->t D σ H->wpAny (model X.prog X.w) X.A (execs st X.env) (fun v s'=>1<=s'.toks/\SP X IP D v s') X.xe s
instance {X:Cx} {st:List Stmt} {t:TS}:CoeFun (Nz X st t) fun _=>∀ (IP:List (Addr×Obj)) (s:Shared) (σ:St) (H:Hp) (D:dJ),KQ X IP σ H s->t D σ H->wpAny (model X.prog X.w) X.A (execs st X.env) (fun v s'=>1<=s'.toks/\SP X IP D v s') X.xe s:=⟨Nz.run⟩
structure PSp (X:Cx) (st:Stmt) (t:TS):Prop where
 run:∀ (IP:List (Addr×Obj)) (s:Shared) (σ:St) (H:Hp) (D:dJ),1<=s.toks->KQ X IP σ H s->t D σ H->wpAny (model X.prog X.w) X.A (exec st X.env) (SP X IP D) X.xe s
instance {X:Cx} {st:Stmt} {t:TS}:CoeFun (PSp X st t) fun _=>∀ (IP:List (Addr×Obj)) (s:Shared) (σ:St) (H:Hp) (D:dJ),1<=s.toks->KQ X IP σ H s->t D σ H->wpAny (model X.prog X.w) X.A (exec st X.env) (SP X IP D) X.xe s:=⟨PSp.run⟩
structure Nu (X:Cx) (st:List Stmt) (t:TS):Prop where
 run:∀ (IP:List (Addr×Obj)) (s:Shared) (σ:St) (H:Hp) (D:dJ),1<=s.toks->KQ X IP σ H s->t D σ H->wpAny (model X.prog X.w) X.A (execs st X.env) (SP X IP D) X.xe s
instance {X:Cx} {st:List Stmt} {t:TS}:CoeFun (Nu X st t) fun _=>∀ (IP:List (Addr×Obj)) (s:Shared) (σ:St) (H:Hp) (D:dJ),1<=s.toks->KQ X IP σ H s->t D σ H->wpAny (model X.prog X.w) X.A (execs st X.env) (SP X IP D) X.xe s:=⟨Nu.run⟩
section
variable {X:Cx} {a b e:Expr} {es:List Expr} {ta tb te:TE} {t:TA} {pos:Pos} {st:Stmt} {rest:List Stmt} {ts us:TS}
theorem Am {x j pos}:Nt X (.Constant (.str x) j pos) (tC (.str x)):=⟨fun _ _ _ H _ I h=>Iw ⟨Nat.succ_le_succ (Hj _),.str x,H,I.tok _,⟨_,rfl⟩,h⟩⟩
theorem C7 {op:Operator} {r:R2} (ho:fR X (binaryOp op) r) (ha:Nt X a ta) (hb:PE X b tb):Nt X (.BinOp a op b pos) (DK r ta tb):=by
 refine ⟨?_⟩
 intro IP s σ H Q I h
 refine wpAny_BinOp (bM (ha IP s σ H _ I h) fun v s1 ⟨k1,x,H1,I1,r1,q1⟩=>?_)
 refine yl (hb IP s1 σ H1 _ I1 q1) fun u s2 k2 ⟨y,H2,I2,r2,q2⟩=>?_
 exact yl (ho IP s2 σ H2 x y v u Q I2 r1 r2 q2) fun _ s3 k3 q=>⟨by lia,q⟩
theorem ym (ha:Nt X e te) (hr:PA X es t) (hs:starEach (e::es) X.env=(false,eval e X.env)::starEach es X.env:=by rfl):PAb X (e::es) (AF te t):=by
 refine ⟨?_⟩
 intro pos IP s σ H Q I h
 rw [hs]
 show wpAny _ _ (spliced ((false,eval e X.env)::backTo pos (starEach es X.env))) _ _ s
 refine Iv (bM (ha IP s σ H _ I h) fun u s1 ⟨k1,x,H1,I1,r1,q1⟩=>?_)
 exact yl (hr pos IP s1 σ H1 _ I1 q1) fun us s2 k2 ⟨xs,H2,I2,r2,q2⟩=>⟨by lia,x::xs,H2,I2,.cons r1 r2,q2⟩
theorem An (h:PAb X es t):Nt X (.List es pos) (DU t):=by
 refine ⟨?_⟩
 intro IP s σ H Q I hq
 refine wpAny_List_spliced (bM (h pos IP s σ H _ I hq) fun us s1 ⟨k1,xs,H1,I1,r,z,q⟩=>⟨by rw [<-r.length];exact z,?_⟩)
 have hf:H1 s1.heap.objs.size=none:=I1.hok.fresh (GE _)
 refine ⟨k1,.ref s1.heap.objs.size,aI H1 s1.heap.objs.size (.lst xs),I1.laid (t':=s1.toks) (fun b u e=>GI _ e) (GE _) ?_,rfl,q _ hf⟩
 exact ⟨z,us,0,r,GZ _ rfl⟩
variable {x:Str} {i:Nat}
theorem ul {pos':Pos} (hN:X.N.Nodup) (hi:X.N[i]?=some x) (hx:Bp X.env.scope x) (he:Nt X e te) (hs:swapsWith e (some (.Name x pos')) pos.line X.env=pure false:=by rfl) (hf:X.fn x=true\/X.env.scope.names.lookup x=some .local:=by first|exact .inl rfl|exact .inr rfl|assumption) :
  NS X (.Assign [.Name x pos'] e pos) (yN te (sO i)):=by
 refine ⟨?_⟩
 intro IP s σ H D I h
 refine wpAny_Assign_Name (bM (he IP s σ H _ I h) fun v s1 ⟨k1,y,H1,I1,r1,q1⟩=>?_) hs
 exact yl (Q:=fun _ s'=>SP X IP D .next s') (fS I1 hN hi hx r1 (fun s2 I2=>⟨_,H1,I2,q1⟩) hf) fun _ s2 k2 q=>⟨by lia,q⟩
theorem Ao {pos':Pos} (hN:X.N.Nodup) (hi:X.N[i]?=some x) (hx:Bp X.env.scope x) (he:NP X e te) (hs:swapsWith e (some (.Name x pos')) pos.line X.env=pure false:=by rfl) (hf:X.fn x=true\/X.env.scope.names.lookup x=some .local:=by first|exact .inl rfl|exact .inr rfl|assumption) :
  PSp X (.Assign [.Name x pos'] e pos) (yN te (sO i)):=by
 refine ⟨?_⟩
 intro IP s σ H D hk I h
 refine wpAny_Assign_Name (bM (he IP s σ H _ hk I h) fun v s1 ⟨y,H1,I1,r1,q1⟩=>?_) hs
 exact fS I1 hN hi hx r1 (fun s2 I2=>⟨_,H1,I2,q1⟩) hf
theorem yn (P:St->Hp->Prop) (h1:NS X st ts) (h2:Mo X rest us):Nz X (st::rest) (zb P ts us):=by
 refine ⟨?_⟩
 intro IP s σ H D I h
 refine wpAny_execs_cons (bM (h1 IP s σ H { D with nx:=P } I h.2) fun f s1 ⟨k1,q⟩=>?_)
 cases f with
 | next=>
  obtain ⟨σ',H',I',q⟩:=q
  exact yl (h2 IP s1 σ' H' D I' (h.1 _ _ q)) fun _ s2 k2 q=>⟨by lia,q⟩
 | ret v=>exact ⟨k1,q⟩
 | brk=>exact ⟨k1,q⟩
 | cont=>exact ⟨k1,q⟩
theorem yo (P:St->Hp->Prop) (h1:NS X st ts) (h2:Nu X rest us):Mo X (st::rest) (zb P ts us):=by
 refine ⟨?_⟩
 intro IP s σ H D I h
 refine wpAny_execs_cons (bM (h1 IP s σ H { D with nx:=P } I h.2) fun f s1 ⟨k1,q⟩=>?_)
 cases f with
 | next=>
  obtain ⟨σ',H',I',q⟩:=q
  exact h2 IP s1 σ' H' D k1 I' (h.1 _ _ q)
 | ret v=>exact q
 | brk=>exact q
 | cont=>exact q
theorem yp (P:St->Hp->Prop) (h1:PSp X st ts) (h2:Mo X rest us):Nu X (st::rest) (zb P ts us):=by
 refine ⟨?_⟩
 intro IP s σ H D hk I h
 refine wpAny_execs_cons (bM (h1 IP s σ H { D with nx:=P } hk I h.2) fun f s1 q=>?_)
 cases f with
 | next=>
  obtain ⟨σ',H',I',q⟩:=q
  exact h2 IP s1 σ' H' D I' (h.1 _ _ q)
 | ret v=>exact q
 | brk=>exact q
 | cont=>exact q
end
structure L0 (P:Program) (w:World) (K:ZF) (mg:Str->Option Value) (base:Heap) (CX:qV) (k:Nat) (f:Addr) (fd:FuncData) (ps:List Str) (sp:Sp):Prop where
 len:∀ vs H Q E,sp vs H Q E->vs.length=ps.length
 run:∀ (A:Around) (outer:List Env) (s:Shared) (H:Hp) (args:Args) (us:List Value) (vs:List V) (Q:VK) (E:XK),KY k A->MB P w K mg base A outer s H->BindsTo s fd args (ps.zip us)->K2 vs us->sp vs H Q E->
  codeAny (model P w) A (.call (.ref f) args) (fun r s'=>1<=s'.toks/\CR CX outer P w H s Q E r s') s
variable {sp:Sp} {ps:List Str} {fd:FuncData} {f:Addr}
theorem L0.ok {P:Program} {w:World} {K:ZF} {mg:Str->Option Value} {base:Heap} {CX:qV} {k:Nat} (h:L0 P w K mg base CX k f fd ps sp):KU P w K mg base CX k f fd ps sp:=
 ⟨h.len,fun A outer s H args us vs Q E hr e0 hb r hs=>codeAny_mono (h.run A outer s H args us vs Q E hr e0 hb r hs) fun _ _ q=>q.2⟩
section
variable {P:Program} {w:World} {K:ZF} {mg:Str->Option Value} {base:Heap}
theorem K7.okb {x qual:Str} {st:Stmt} {N ps:List Str} {k:Nat} (F:K7 K x qual st f fd) (S:ay N ps (aj st)) (len:∀ vs H Q E,sp vs H Q E->vs.length=ps.length)
  (hbody:∀ (Jc:Value) (A:Around) (outer:List Env) (s:Shared) (H:Hp) (vs:List V) (Q:VK) (E:XK),KY k (A.deeper (envOfC qual (aj st) s.heap.objs.size f Jc))->sp vs H Q E->
   ∃ t,Nz (nF bY P w K mg base N qual (aj st) f Jc A outer s H E).nox (cU st) t/\t { nx:=fun _ H'=>Q .non H',rt:=Q } (start N vs) H):L0 P w K mg base bY (k+1) f fd ps sp:=by
 obtain ⟨oc,od,kV,doc,pm,an,Jc,ct,osl,rfl,lk,hcd⟩:=F.ex
 refine ⟨len,fun A outer s H args us vs Q E hr e0 hb r hsp=>?_⟩
 have hl:=len _ _ _ _ hsp
 have KX:K.In s.heap:=e0.mod.kin.keeps fun b o e=>(e0.bs b o e).1
 have lim:s.heap.NoLimit:=e0.mod.nolimit.keeps fun b o e=>(e0.bs b o e).1
 have hkind:∀ y∈ps.zip us,(aj st).names.lookup y.1=some .local\/((aj st).names.lookup y.1=some .cell/\((cellsFrom (s.heap.objs.size+1) (aj st).names []).lookup y.1).isSome=true):=fun ⟨n,v⟩ hy=>by
  rcases S.par n (IJ hy).1 with q|q
  ·exact .inl q
  ·exact .inr ⟨q,Iz _ _ _ (.inl q)⟩
 refine codeAny_call_function hr.depth (KX _ _ lk) rfl S.co S.gen rfl (PySem.W.codeRec_of KX hcd) (hb _ _ _ _ ?_)
 refine wpAny_newFunctionEnv_cells S.kind hkind fun env he s1 x=>?_
 subst he
 refine ⟨lim.keeps x.toInCall.keep,codeAny_func ?_⟩
 obtain ⟨t,ht,hq⟩:=hbody Jc A outer s H vs Q E (hr.deeper _) hsp
 have I:KQ (nF bY P w K mg base N qual (aj st) f Jc A outer s H E) [] (start N vs) H s1:=mP S hr.hd e0 hl r x
 refine wpAny_mono (ht [] s1 (start N vs) H _ (I.wish _) hq) (fun fl s' hs=>?_) fun _ _ z=>False.elim z
 obtain ⟨hk,hs⟩:=hs
 have hs:=hs.unwish
 have fin:∀ {σ':St} {H':Hp} {v:V} {u:Value},KQ (nF bY P w K mg base N qual (aj st) f Jc A outer s H E) [] σ' H' s'->K1 v u->Q v H'->CE outer P w H s Q u s':=
  fun {σ' H' v u} J rv q=>⟨v,H',J.os,J.bare,J.base,J.hok,rv,q⟩
 cases fl with
 | ret u=>
  obtain ⟨v,σ',H',J,rv,q⟩:=hs
  exact ⟨hk,fin J rv q⟩
 | next=>
  obtain ⟨σ',H',J,q⟩:=hs
  exact ⟨hk,fin (v:=V.non) (u:=Value.none) J rfl q⟩
 | brk=>
  obtain ⟨_,_,_,q⟩:=hs
  exact False.elim q
 | cont=>
  obtain ⟨_,_,_,q⟩:=hs
  exact False.elim q
end
section
variable {X:Cx} {CX:qV} {k:Nat} {f C:Addr} {fd:FuncData} {ps:List Str} {sp:Sp} {dvs:List V} {ds:List Value} {E:XK} {x m:Str} {p pos apos:Pos} {e o:Expr} {es:List Expr} {ta:TE} {t:TA}
theorem yq (F:L0 X.prog X.w X.K X.mg X.base CX k f fd ps sp) (hr:KY k X.A) (hg:Gl X x) (hm:X.mg x=some (.ref f)) (hk:PySem.W.keepIn X.K (.ref f)=true) (hb:Ld X.K fd ps []) (hx:ia CX X E)
  (ha:PA X (e::es) t) (hdb:(x == ("__debug__":Str))=false:=by decide) (he:starEach (e::es) X.env=(false,eval e X.env)::starEach es X.env:=by rfl) (hpl:(backTo pos (starEach es X.env)).any (·.1)=false:=by rfl) :
  Nt X (.Call (.Name x p) (e::es) [] pos) (fun σ H Q=>t σ H fun vs H1=>sp vs H1 Q E):=by
 refine ⟨?_⟩
 intro IP s σ H Q I h
 refine wpAny_Call_Name_kw (iJ I hg hm ?_ hdb)
 refine Iu (h₀:=X.base) I.ok.mod.kin hk (bM (ha pos IP s σ H _ I h) fun us s1 ⟨vs,H1,I1,r,q⟩=>⟨I1.kIn,?_⟩) he hpl
 have hl:us.length=ps.length:=by rw [<-r.length];exact F.len _ _ _ _ q
 have hb':=hb s1 us I1.kIn (by rw [Hw];exact hl)
 rw [Hw] at hb'
 refine wpAny_call (codeAny_mono (F.run X.A X.stack s1 H1 ⟨us,[]⟩ us vs Q E hr I1.env0 hb' r q) fun r s' ⟨hk',hq⟩=>?_)
 cases r with
 | error e=>exact hx IP σ H1 s1 e s' I1 hq
 | ok fl=>
  cases fl with
  | ret u=>exact ⟨hk',I1.after hq⟩
  | next=>exact False.elim hq
  | brk=>exact False.elim hq
  | cont=>exact False.elim hq
end
end L2
namespace L3
open PySem L2
theorem um {fs:List (Str×Str)} (h:fs≠[]):cW fs≠[]:=by
 cases fs with
 | nil=>exact absurd rfl h
 | cons x r=>
  cases r with
  | nil=>rw [jg];simp
  | cons y r=>rw [jh];simp
def mD (fs:List (Str×Str)):List (List Nat):=fs.map fun x=>cp x.1++(32::cp x.2)
theorem yr:∀ fs:List (Str×Str),TK.jn [32,44,32] (mD fs)=au (cW fs)
 | []=>rfl
 | [x]=>by
  rw [jg,bB (by simp),cQ]
  rfl
 | x::y::r=>by
  have ih:=yr (y::r)
  show TK.jn [32,44,32] ((cp x.1++(32::cp x.2))::mD (y::r))=_
  rw [gT (by simp [mD]),ih,jh,bB (by simp),bB (by simp),bB (um (by simp))]
  have e:cp (",":Str)=[44]:=by decide +kernel
  rw [e]
  simp
variable {H:Hp}
theorem yt {l b:Addr} {xs zs:List (List Nat)} {Q:VK} (hl:H l=some (.lst (cX xs))) (hb:H b=some (.lst (cX zs))) (hz:xs.length+zs.length<=1000000) (q:∀ c H',KO H H'->H c=none->H' c=some (.lst (cX (xs++zs)))->Q (.ref c) H'):yZ (.ref l) (.ref b) H Q:=by
 rw [lV] at hl hb
 refine cy hl hb (by simpa using hz) fun c H' s n e=>q c H' s n ?_
 rw [lV,GK]
 exact e
theorem FZ:(" , ":Str)=S [32,44,32]:=by decide +kernel
theorem sL {α β:Type} {R:α->β->Prop}:∀ {xs:List α} {ys:List β},Paired R xs ys->xs.length=ys.length
 | _,_,.nil=>rfl
 | _,_,.cons _ t=>by rw [GB,GB,sL t]
theorem Ap (f:Str×Str) (h1:K4 f.1) (h2:f.2∈dv):f.1.length<=8/\f.2.length<=8:=by
 have:∀ z∈dv,z.length<=8:=by decide +kernel
 exact ⟨h1.2.2.1,this _ h2⟩
theorem F0 (f:Str×Str):(f.1++(" ":Str)=S (cp f.1++[32]))/\(S (cp f.1++[32])++f.2=S (cp f.1++(32::cp f.2))):=by
 have e1:=eX f.1
 have e2:=eX f.2
 constructor
 ·rw [jZ]
  conv=>lhs;rw [<-e1]
  rw [bA]
 ·conv=>lhs;rw [<-e2]
  rw [bA]
  congr 1
  simp
theorem ny (fs:List (Str×Str)):(S (au (cW fs))=("":Str))↔fs=[]:=by
 constructor
 ·intro h
  by_cases e:fs=[]
  ·exact e
  ·exfalso
   have h2:=congrArg cp h
   rw [fh] at h2
   have h3:cp ("":Str)=[]:=by decide +kernel
   rw [h3] at h2
   cases fs with
   | nil=>exact e rfl
   | cons x r=>
    have h4:au (cW (x::r))=cp x.1++(32::au ((cW (x::r)).tail)):=by
     cases r with
     | nil=>rw [jg,bB (by simp)];rfl
     | cons y r=>rw [jh,bB (by simp)];rfl
    rw [h4] at h2
    simp at h2
 ·rintro rfl
  decide +kernel
def mv (D:Fm):List (List Str):=[["word",(toString (D.width:Int):Str)],["cells",(toString (D.cells:Int):Str)],["depth",(toString (D.depth:Int):Str)],("places":Str)::D.places,("marks":Str)::D.marks,("gate":Str)::D.gates]
theorem Aq (D:Fm):TK.jn [32] ((mv D).map fun g=>au (g++[(";":Str)]))=au (cK D):=by
 have h:=fq ((mv D).map fun g=>g++[(";":Str)]) (by
  intro g hg
  obtain ⟨g0,_,rfl⟩:=G0.mp hg
  simp)
 rw [Hz] at h
 have e:((mv D).map fun g=>g++[(";":Str)]).flatten=cK D:=by
  unfold mv cK
  simp
 rw [e] at h
 exact h
def qK (fs:List (Str×Str)):List (List Str):=if fs=[] then [] else [cW fs]
theorem Ar (x:Kn):TK.jn [32] ([cp "kind",cp x.name,cp "("]++(qK x.fs).map au++[cp ")"]++[au (cV x.bd)])=au (bF x):=by
 have h:=fq ([[("kind":Str)],[x.name],[("(":Str)]]++qK x.fs++[[(")":Str)]]++[cV x.bd]) (by
  intro g hg
  simp only [GP,GF,GH,or_false] at hg
  rcases hg with ((((rfl|rfl|rfl)|hg)|rfl)|rfl)
  ·simp
  ·simp
  ·simp
  ·unfold qK at hg
   split at hg
   ·cases hg
   ·rw [G8.mp hg]
    exact um (by assumption)
  ·simp
  ·exact md _)
 have e:([[("kind":Str)],[x.name],[("(":Str)]]++qK x.fs++[[(")":Str)]]++[cV x.bd]).flatten=bF x:=by
  unfold bF qK
  split
  ·rename_i hn
   rw [hn,yb]
   simp
  ·simp
 rw [e] at h
 rw [<-h]
 simp only [GK,GO,HM]
 rfl
def yu (ms:List Str) (gt:Option Nat) (i:Nat):List Str:=match gt with
 | none=>[]
 | some g=>if g < i then [ms.getD g ""] else []
variable {gt:Option Nat} {ms:List Str}
theorem yw (h:∀ g,gt=some g->g < ms.length):yu ms gt ms.length=gL ms gt:=by
 cases gt with
 | none=>rfl
 | some g=>show (if g < ms.length then _ else _)=_;rw [if_pos (h g rfl)];rfl
variable {z:Str} {i:Nat}
theorem nA (h:ms[i]?=some z):yu ms gt (i+1)=yu ms gt i++(if decide (V.int (i:Nat)=gV gt)=true then [z] else []):=by
 cases gt with
 | none=>
  have:decide (V.int (i:Nat)=gV none)=false:=decide_eq_false fun e=>by cases e
  rw [this]
  rfl
 | some g=>
  show (if g < i+1 then [ms.getD g ""] else [])=(if g < i then [ms.getD g ""] else [])++_
  by_cases e:i=g
  ·subst e
   rw [if_pos (by lia),if_neg (by lia),if_pos (show decide (V.int (i:Nat)=gV (some i))=true from decide_eq_true rfl),Hg,h]
   rfl
  ·have:decide (V.int (i:Nat)=gV (some g))=false:=decide_eq_false fun e'=>e (by have:=V.int.inj e';lia)
   rw [this]
   by_cases h1:g < i
   ·rw [if_pos (by lia),if_pos h1];simp
   ·rw [if_neg (by lia),if_neg h1];simp
variable {n:Nat}
theorem pi (h:n<=1000):(toString (n:Int):Str).length<=8:=by
 rw [gm,aG]
 exact (gl n).2 8 (by decide) (by lia)
variable {a:Str}
theorem pj {l:List Nat} (h:a=S (l++[32])) (hl:l=cp (S l)) (z:Str):a++z=S (au [S l,z]):=by
 rw [bB (by simp),cQ,h]
 have e:z=S (cp z):=(eX z).symm
 rw [e,bA,fh,fh]
 congr 1
 simp
theorem C8:("word ":Str)=S ([119,111,114,100]++[32])/\("cells ":Str)=S ([99,101,108,108,115]++[32])/\("depth ":Str)=S ([100,101,112,116,104]++[32]):=by decide +kernel
theorem C9:S [119,111,114,100]=("word":Str)/\S [99,101,108,108,115]=("cells":Str)/\S [100,101,112,116,104]=("depth":Str):=by decide +kernel
inductive kG (vs:List V) (H:Hp) (Q:VK) (Z3:XK):Prop
 | mk (d D gt kvs lp lm lk us fn:_):vs=[.ref d]->Np H d D gt kvs lp lm lk us->jV D fn gt->(∀ H',KO H H'->Q (.str (S (c8 D))) H')->kG vs H Q Z3
variable {us:List V} {lp lm lk:Addr} {kvs:List (cE×V)} {D:Fm} {d:Addr}
theorem Np.same {H H':Hp} (h:Np H d D gt kvs lp lm lk us) (s:KO H H'):Np H' d D gt kvs lp lm lk us:=
 ⟨s _ _ h.ed,h.v1,h.v2,h.v3,h.v4,h.v5,h.v6,h.v7,s _ _ h.ep,s _ _ h.em,s _ _ h.ek,bS (fun _ _ h'=>Nq.kp (al s) (fun x us nx fs e _=>s _ _ e) h') h.ks⟩
variable {P:Program} {w:World} {K:ZF} {mg:Str->Option Value} {base:Heap} {C fi aS aE aF aO:Addr} {t1 t2 t3 t4 t5 tM:Tok}
theorem Lh:ay ["_law_table_here","_law_head","_law_rows","_law_name","_law_fields","_law_deed_here","_law_inner","_law_words"] ["_law_table_here"] (aj iy):=cH (by decide +kernel)
theorem Be:(["_law_k","_law_name","_law_table_here"]:List Str).Nodup:=by decide +kernel
theorem ET:(["_law_part"]:List Str).Nodup:=by decide +kernel
theorem EU:(["_law_field","_law_sort"]:List Str).Nodup:=by decide +kernel
variable {fd:FuncData} {f:Addr}
theorem yx (F:K7 K "_law_text" "_law_text" iy f fd) (B:Bl mg) (B3:zF mg) (DT:Fn P w K mg base "_law_deed_text" n ["_law_deed_here","_law_table_here","_law_fields"] (tZ 4)) (hn:1<=n):L0 P w K mg base bY (n+1) f fd ["_law_table_here"] kG:=by
 have ZZ:=Lh
 walk_at "ob"
 ·obtain ⟨d,D,gt,kvs,lp,lm,lk,us,fn,rfl,hV,hD,q⟩:=h
  have hu:=dP hr
  have sz:(200000:Nat)<=sizeLine:=by decide
  refine ⟨_,yn (fun σ H'=>∃ lh,σ=[some (.ref d),some (.ref lh),none,none,none,none,none,none]/\KO H H'/\H' lh=some (.lst (cX (((mv D).take 3).map au)))) (ul (i:=1) Lh.nd rfl (Or.inl rfl) (An (ym (C7 aJ Am (aU ce (by rfl) B.str cb (aa (bD hu (pv 0) af (fun _ _=>rfl)) ab))) (aa (ar aJ af (aU ce (by rfl) B.str cb (aa (bD hu (pv 0) af (fun _ _=>rfl)) ab))) (aa (ar aJ af (aU ce (by rfl) B.str cb (aa (bD hu (pv 0) af (fun _ _=>rfl)) ab))) ab)))))
   (bz (fun σ H'=>∃ lh,σ=[some (.ref d),some (.ref lh),none,none,none,none,none,none]/\KO H H'/\H lh=none/\H' lh=some (.lst (cX (((mv D).take 5).map au)))) (ap (i:=1) Lh.nd rfl (Or.inl rfl) (ar aR (pv 1) (aB (aa (b9 G9 Hn Hm dc af (aa (ar aR (aB (aa af ab)) (bD hu (pv 0) af (fun _ _=>rfl))) ab)) (aa (b9 G9 Hn Hm dc af (aa (ar aR (aB (aa af ab)) (bD hu (pv 0) af (fun _ _=>rfl))) ab)) ab)))))
   (bz (fun σ H'=>∃ lh,σ=[some (.ref d),some (.ref lh),none,none,none,none,none,none]/\KO H H'/\H' lh=some (.lst (cX ((mv D).map au)))) (aN (b9 GS GR GQ bq (pv 1) (aa (b9 G9 Hn Hm dc af (aa (ar aR (aB (aa af ab)) (fV (N':=["_law_k","_law_name","_law_table_here"]) (ix:=[none,none,some 0]) (sc0:=aj iy) (N:=["_law_table_here","_law_head","_law_rows","_law_name","_law_fields","_law_deed_here","_law_inner","_law_words"]) rfl (by decide +kernel) (LO rfl B3.enumerate (aa (bD hu (pv 0) af (fun _ _=>rfl)) ab))
     (fun C' cl s H fp=>dR (K:=K) (n:=2) rfl rfl (aA (az (i:=0) Be rfl (Or.inl rfl) (.inr rfl)) (aA (az (i:=1) Be rfl (Or.inl rfl) (.inr rfl)) bi))) (fun _ _ _ _ _=>jr (ak be (pv 0) (bD hu (pv 2) af (fun _ _=>rfl)) (av _))) (fun C' cl s H fp=>pv 1))) ab)) ab)))
   (bz (fun σ H'=>∃ lh lr,σ=[some (.ref d),some (.ref lh),some (.ref lr),none,none,none,none,none]/\KO H H'/\H lr=none/\H' lr=some (.lst (cX (eD D [])))) (ap (i:=2) Lh.nd rfl (Or.inl rfl) (aB (aa (b9 G9 Hn Hm dc af (aa (fV (N':=["_law_part"]) (ix:=[none]) (sc0:=aj iy) (N:=["_law_table_here","_law_head","_law_rows","_law_name","_law_fields","_law_deed_here","_law_inner","_law_words"]) rfl (by decide +kernel) (fr (pv 1))
     (fun C' cl s H fp=>az (i:=0) ET rfl (Or.inl rfl) (.inr rfl)) (fun _ _ _ _ _=>fU) (fun C' cl s H fp=>ar aJ (pv 0) af)) ab)) ab)))
   (ae (cr PassesOwn.never rfl (fr (bD hu (pv 0) af (fun _ _=>rfl))) (cB rfl (aA (az (i:=3) Lh.nd rfl (Or.inl rfl)) (aA (az (i:=4) Lh.nd rfl (Or.inl rfl)) (aA (az (i:=5) Lh.nd rfl (Or.inl rfl)) bi))))
    (ae (ap (i:=6) Lh.nd rfl (Or.inl rfl) (b9 G9 Hn Hm dc af (aa (fV (N':=["_law_field","_law_sort"]) (ix:=[none,none]) (sc0:=aj iy) (N:=["_law_table_here","_law_head","_law_rows","_law_name","_law_fields","_law_deed_here","_law_inner","_law_words"]) rfl (by decide +kernel) (fr (pv 4))
      (fun C' cl s H fp=>dR (K:=K) (n:=2) rfl rfl (aA (az (i:=0) EU rfl (Or.inl rfl) (.inr rfl)) (aA (az (i:=1) EU rfl (Or.inl rfl) (.inr rfl)) bi))) (fun _ _ _ _ _=>fU) (fun C' cl s H fp=>ar aJ (ar aJ (pv 0) af) (pv 1))) ab)))
    (ae (ap (i:=7) Lh.nd rfl (Or.inl rfl) (ar aR (ar aR (aB (aa af (aa (pv 3) (aa af ab)))) (fV (N':=["_law_part"]) (ix:=[none]) (sc0:=aj iy) (N:=["_law_table_here","_law_head","_law_rows","_law_name","_law_fields","_law_deed_here","_law_inner","_law_words"]) rfl (by decide +kernel) (fr (aB (aa (pv 6) ab)))
      (fun C' cl s H fp=>az (i:=0) ET rfl (Or.inl rfl) (.inr rfl)) (fun _ _ _ _ _=>jr (ak pI (pv 0) af (av _))) (fun C' cl s H fp=>pv 0))) (aB (aa af ab))))
    (ah (aN (b9 GS GR GQ bq (pv 2) (aa (b9 G9 Hn Hm dc af (aa (ar aR (pv 7) (aB (aa (am DT hr rfl (aa (pv 5) (aa (pv 0) (aa (pv 4) ab)))) ab))) ab)) ab)))))))
   (ah (ao (b9 G9 Hn Hm dc af (aa (pv 2) ab)))))))),?_⟩
  have hc64:=hD.c64
  have hw24:=hD.w24
  have hd8:=hD.d8
  refine ⟨?_,?_⟩
  rotate_left
  ·have z1:=pi (n:=D.width) (by lia)
   have z2:=pi (n:=D.cells) (by lia)
   have z3:=pi (n:=D.depth) (by lia)
   have y1:("word ":Str).length=5/\("cells ":Str).length=6/\("depth ":Str).length=6:=by decide +kernel
   refine ⟨_,rfl,d,_,rfl,cj hV.ed hV.v1,_,rfl,di (by lia),_,_,rfl,rfl,by lia,?_⟩
   refine ⟨_,rfl,d,_,rfl,cj hV.ed hV.v2,_,rfl,di (by lia),_,_,rfl,rfl,by lia,?_⟩
   refine ⟨_,rfl,d,_,rfl,cj hV.ed hV.v3,_,rfl,di (by lia),_,_,rfl,rfl,by lia,?_⟩
   refine ⟨aW,fun lh nlh=>⟨lh,rfl,ad nlh,?_⟩⟩
   rw [ac]
   congr 2
   have t1:=pj C8.1 rfl (toString (D.width:Int):Str)
   have t2:=pj C8.2.1 rfl (toString (D.cells:Int):Str)
   have t3:=pj C8.2.2 rfl (toString (D.depth:Int):Str)
   rw [C9.1] at t1
   rw [C9.2.1] at t2
   rw [C9.2.2] at t3
   rw [t1,t2,t3]
   rfl
  rintro σ H1 ⟨lh,rfl,s1,e1⟩
  have hp4:=hD.p4
  have hm3:=hD.m3
  have nmS:∀ z∈D.places++D.marks,Lg z:=fun z hz=>.name (hD.nf z (by rcases GP.mp hz with h|h<;>simp [h])).1
  refine ⟨?_,?_⟩
  rotate_left
  ·have V1:=hV.same s1
   have jb:∀ (w:Str) (zs:List Str),Lg w->(∀ z∈zs,Lg z)->zs.length<=10->(((w::zs).map cp).map List.length).sum+((w::zs).map cp).length*[32].length<=100000:=by
    intro w zs hw hz hl
    exact (i6 (zs:=w::zs) (by simp;lia) (fun z hz'=>by
     rcases GF.mp hz' with rfl|h
     ·have:=hw.le;lia
     ·have:=(hz z h).le;lia)).1
   refine ⟨_,rfl,?_⟩
   refine ⟨rfl,aW,fun l2 n2=>?_⟩
   generalize zz:aI H1 l2 _=H2
   have s2:KO H1 H2:=zz ▸ ad n2
   have e2:H2 l2=some (.lst (ai ["places"])):=zz ▸ ac
   clear zz
   have V2:=V1.same s2
   refine ⟨_,rfl,d,_,rfl,cj V2.ed V2.v4,cy e2 V2.ep (by simp;lia) fun l3 H3 s3 n3 e3=>?_⟩
   have e3':H3 l3=some (.lst (cX ((("places":Str)::D.places).map cp))):=by rw [gy];exact e3
   refine ⟨[32],l3,_,congrArg V.str jZ,rfl,KW.of e3',jb _ _ (.word (by decide +kernel)) (fun z hz=>nmS z (by simp [hz])) (by lia),?_⟩
   refine ⟨rfl,aW,fun l4 n4=>?_⟩
   generalize zz:aI H3 l4 _=H4
   have s4:KO H3 H4:=zz ▸ ad n4
   have e4:H4 l4=some (.lst (ai ["marks"])):=zz ▸ ac
   clear zz
   have V4:=(V2.same s3).same s4
   refine ⟨_,rfl,d,_,rfl,cj V4.ed V4.v5,cy e4 V4.em (by simp;lia) fun l5 H5 s5 n5 e5=>?_⟩
   have e5':H5 l5=some (.lst (cX ((("marks":Str)::D.marks).map cp))):=by rw [gy];exact e5
   refine ⟨[32],l5,_,congrArg V.str jZ,rfl,KW.of e5',jb _ _ (.word (by decide +kernel)) (fun z hz=>nmS z (by simp [hz])) (by lia),?_⟩
   refine ⟨aW,fun l6 n6=>?_⟩
   have s6:=ad (o:=.lst (cX [au (("places":Str)::D.places),au (("marks":Str)::D.marks)])) n6
   have e6:(aI H5 l6 (.lst (cX [au (("places":Str)::D.places),au (("marks":Str)::D.marks)]))) l6=some (.lst (cX [au (("places":Str)::D.places),au (("marks":Str)::D.marks)])):=ac
   have s16:=(((s2.trans s3).trans s4).trans s5).trans s6
   refine ⟨lh,l6,_,_,rfl,rfl,s16 _ _ e1,e6,by rw [cL,cL];simp [mv];lia,fun l7 n7=>?_⟩
   refine ⟨l7,rfl,(s1.trans s16).trans (ad n7),(s1.trans s16).free n7,?_⟩
   rw [ac]
   rfl
  rintro σ H1 ⟨lh,rfl,s1,nlh,e1⟩
  refine ⟨?_,?_⟩
  rotate_left
  ·have V1:=hV.same s1
   refine ⟨_,rfl,.inl ⟨rfl,_,KW.of e1⟩,?_⟩
   refine ⟨rfl,aW,fun l2 n2=>?_⟩
   generalize zz:aI H1 l2 _=H2
   have s2:KO H1 H2:=zz ▸ ad n2
   have e2:H2 l2=some (.lst (ai ["gate"])):=zz ▸ ac
   clear zz
   have V2:=V1.same s2
   refine ⟨_,rfl,d,_,rfl,cj V2.ed V2.v5,lm,rfl,⟨_,KW.of V2.em⟩,?_⟩
   refine kr (K:=K) (l:=lm) (xs:=ai D.marks) (fun i ys H'=>KO H2 H'/\ys=ai (yu D.marks gt i)) ⟨KO.refl _,by cases gt<;>rfl⟩ (fun i ys H' hi ⟨s',e'⟩=>⟨KW.of (s' _ _ V2.em),by
     rw [e',aY]
     have:(yu D.marks gt i).length<=1:=by
      cases gt with
      | none=>exact Hj _
      | some g=>show (if g < i then _ else _:List Str).length<=1;split<;>simp
     lia⟩) ?_ ?_
   ·rintro i x ys H3 T1 hx nT ⟨s3,rfl⟩
    obtain ⟨z,hz,rfl⟩:=gR hx
    have Je:=(GA.mp hx).1
    have s4:=ad (o:=.tup [.int (i:Int),.str z]) nT
    have V4:=(V2.same s3).same s4
    refine ⟨T1,_,rfl,KP.of ac,rfl,_,_,rfl,_,_,rfl,rfl,⟨rfl,trivial⟩,?_⟩
    have hsc:Bz (V.int (i:Int)) (gV gt)=true:=by cases gt<;>rfl
    refine ⟨_,rfl,_,rfl,d,_,rfl,cj V4.ed V4.v6,hsc,_,rfl,bU (fun h=>?_) (fun h=>?_)⟩
    ·refine ⟨_,rfl,Nx.mk Je ⟨s3.trans s4,?_⟩⟩
     have h':decide (V.int (i:Nat)=gV gt)=true:=h
     rw [nA hz,if_pos h',<-bV]
     rfl
    ·refine Nx.mk Je ⟨s3.trans s4,?_⟩
     have h':¬ decide (V.int (i:Nat)=gV gt)=true:=h
     rw [nA hz,if_neg h',Hw]
   ·rintro ys H3 ⟨s3,rfl⟩ l4 n4
    rw [aY,yw hD.gb,<-hD.ga]
    generalize zz:aI H3 l4 _=H4
    have s4:KO H3 H4:=zz ▸ ad n4
    have e4:H4 l4=some (.lst (ai D.gates)):=zz ▸ ac
    clear zz
    have hg1:D.gates.length<=1:=by rw [hD.ga];cases gt<;>simp [gL]
    have hgS:∀ z∈D.gates,Lg z:=by
     intro z hz
     rw [hD.ga] at hz
     cases hgt:gt with
     | none=>rw [hgt] at hz;cases hz
     | some g=>
      rw [hgt] at hz
      have hgl:=hD.gb g hgt
      rw [G8.mp hz,Hg,GJ hgl]
      exact nmS _ (GN _ (Hv hgl))
    refine cy ((s3.trans s4) _ _ e2) e4 (by simp;lia) fun l5 H5 s5 n5 e5=>?_
    have e5':H5 l5=some (.lst (cX ((("gate":Str)::D.gates).map cp))):=by rw [gy];exact e5
    refine ⟨[32],l5,_,congrArg V.str jZ,rfl,KW.of e5',(i6 (zs:=("gate":Str)::D.gates) (by simp;lia) (fun z hz'=>by
     rcases GF.mp hz' with rfl|h
     ·decide +kernel
     ·have:=(hgS z h).le;lia)).1,?_⟩
    have s15:=((s2.trans s3).trans s4).trans s5
    refine ⟨lh,_,_,rfl,rfl,s15 _ _ e1,by rw [cL];simp [mv];lia,lh,rfl,bK nlh (s1.trans s15),?_⟩
    rw [ac]
    rfl
  rintro σ H1 ⟨lh,rfl,s1,e1⟩
  have hdl:∀ g∈mv D,(au g).length<=100:=by
   intro g hg
   have hk:g.length<=10/\∀ z∈g,Lg z:=by
    have hgt1:D.gates.length<=1:=by rw [hD.ga];cases gt<;>simp [gL]
    have hgS:∀ z∈D.gates,Lg z:=by
     intro z hz
     rw [hD.ga] at hz
     cases hgt:gt with
     | none=>rw [hgt] at hz;cases hz
     | some g=>
      rw [hgt] at hz
      have hgl:=hD.gb g hgt
      rw [G8.mp hz,Hg,GJ hgl]
      exact nmS _ (GN _ (Hv hgl))
    unfold mv at hg
    simp only [GF,GH,or_false] at hg
    rcases hg with rfl|rfl|rfl|rfl|rfl|rfl
    ·refine ⟨by simp,fun z hz=>?_⟩
     simp only [GF,GH,or_false] at hz
     rcases hz with rfl|rfl
     ·exact .word (by decide +kernel)
     ·exact .num (by lia)
    ·refine ⟨by simp,fun z hz=>?_⟩
     simp only [GF,GH,or_false] at hz
     rcases hz with rfl|rfl
     ·exact .word (by decide +kernel)
     ·exact .num (by lia)
    ·refine ⟨by simp,fun z hz=>?_⟩
     simp only [GF,GH,or_false] at hz
     rcases hz with rfl|rfl
     ·exact .word (by decide +kernel)
     ·exact .num (by lia)
    ·refine ⟨by simp;lia,fun z hz=>?_⟩
     rcases GF.mp hz with rfl|h
     ·exact .word (by decide +kernel)
     ·exact nmS z (by simp [h])
    ·refine ⟨by simp;lia,fun z hz=>?_⟩
     rcases GF.mp hz with rfl|h
     ·exact .word (by decide +kernel)
     ·exact nmS z (by simp [h])
    ·refine ⟨by simp;lia,fun z hz=>?_⟩
     rcases GF.mp hz with rfl|h
     ·exact .word (by decide +kernel)
     ·exact hgS z h
   have:=bC hk.2
   lia
  refine ⟨?_,?_⟩
  rotate_left
  ·refine ⟨rfl,_,rfl,lh,rfl,⟨_,KW.of e1⟩,?_⟩
   refine iN (K:=K) (a:=lh) (xs:=cX ((mv D).map au)) (fun i ys H'=>H'=H1/\ys=cX (((mv D).take i).map fun g=>au (g++[(";":Str)]))) ⟨rfl,rfl⟩ (fun i ys H' hi ⟨a1,a2⟩=>by
     subst a1 a2
     refine ⟨KW.of e1,?_⟩
     rw [cL,GC,GG]
     simp [mv]
     lia) ?_ ?_
   ·rintro i x ys H2 hx ⟨rfl,rfl⟩
    obtain ⟨g,hg,rfl⟩:∃ g,(mv D)[i]?=some g/\x=.str (S (au g)):=by
     unfold cX at hx
     rw [GY,GY] at hx
     cases e:(mv D)[i]? with
     | none=>rw [e] at hx;cases hx
     | some g=>rw [e] at hx;exact ⟨g,rfl,(Hd hx).symm⟩
    have Je:=(GA.mp hx).1
    have hgl:=hdl g (GM hg)
    have hgn:g≠[]:=by
     have hm:=GM hg
     unfold mv at hm
     simp only [GF,GH,or_false] at hm
     rcases hm with rfl|rfl|rfl|rfl|rfl|rfl<;>simp
    refine ⟨trivial,fW ?_⟩
    refine ⟨_,rfl,_,_,rfl,congrArg V.str eO.2.2.2.2.2.2,by rw [aG,aG];simp;lia,?_⟩
    rw [bA]
    refine Nx.mk Je ⟨rfl,?_⟩
    rw [GX,hg,GK]
    unfold cX
    rw [GK]
    have e9:au (g++[(";":Str)])=au g++[32,59]:=by
     rw [dF hgn (by simp),cQ]
     have:cp (";":Str)=[59]:=by decide +kernel
     rw [this]
    show _++[V.str (S (au g++[32,59]))]=_++[V.str (S (au (g++[(";":Str)])))]
    rw [e9]
   ·rintro ys H2 ⟨rfl,rfl⟩ l3 n3
    have e6:(cX ((mv D).map au)).length=(mv D).length:=by rw [cL,GC]
    rw [e6,GV]
    generalize zz:aI H2 l3 _=H3
    have s3:KO H2 H3:=zz ▸ ad n3
    have e3:H3 l3=some (.lst (cX ((mv D).map fun g=>au (g++[(";":Str)])))):=zz ▸ ac
    clear zz
    refine ⟨[32],l3,_,congrArg V.str jZ,rfl,KW.of e3,?_,aW,fun lr nlr=>?_⟩
    ·have:=iB 110 ((mv D).map fun g=>au (g++[(";":Str)])) (fun t ht=>by
      obtain ⟨g,hg,rfl⟩:=G0.mp ht
      have h1:=hdl g hg
      have hgn:g≠[]:=by
       unfold mv at hg
       simp only [GF,GH,or_false] at hg
       rcases hg with rfl|rfl|rfl|rfl|rfl|rfl<;>simp
      rw [dF hgn (by simp),cQ]
      have:cp (";":Str)=[59]:=by decide +kernel
      rw [this]
      simp
      lia)
     have h6:((mv D).map fun g=>au (g++[(";":Str)])).length=6:=rfl
     rw [h6] at this ⊢
     simp only [GB,GL]
     lia
    ·have s4:=ad (o:=.lst [V.str (S (au (cK D)))]) nlr
     have eh:=Aq D
     refine ⟨lh,lr,rfl,?_,?_,?_⟩
     ·rw [eh];exact (s1.trans s3).trans s4
     ·exact (s1.trans s3).free nlr
     ·rw [ac,eh];rfl
  rintro σ H1 ⟨lh,lr,rfl,s1,nlr,e1⟩
  obtain ⟨mc,mk,hMd,hKl⟩:=hD.kl
  have hmd:=mY hMd
  have V1:=hV.same s1
  have hFl:=gA hD
  refine ⟨_,rfl,d,_,rfl,cj V1.ed V1.v7,lk,rfl,⟨_,KW.of V1.ek⟩,?_⟩
  refine pH (K:=K) (a:=lk) (xs:=us) (fun i σ H'=>∃ v3 v4 v5 v6 v7:Option V,σ=[some (.ref d),some (.ref lh),some (.ref lr),v3,v4,v5,v6,v7]/\KO H H'/\H' lr=some (.lst (cX (eD D (D.kinds.take i))))) ⟨_,_,_,_,_,rfl,s1,e1⟩ (fun i σ H' _ ⟨_,_,_,_,_,_,s',_⟩=>KW.of (s' _ _ hV.ek)) ?_ ?_
  ·rintro i y σ H2 hy ⟨v3,v4,v5,v6,v7,rfl,s2,e2⟩
   obtain ⟨x,hx,t,lf,b,rfl,hlf,ht,⟨fu,hfu,hfp⟩,hb⟩:=gr hV.ks hy
   have hxm:=GM hx
   have hil:=(GA.mp hx).1
   have G:=nq hD hxm
   have hst:=ml hD hxm
   have hf3:=sE hD hxm
   have hK:=hKl x hxm
   refine ⟨t,_,rfl,KP.of (s2 _ _ ht),rfl,_,_,rfl,_,_,rfl,_,_,rfl,rfl,?_⟩
   refine ⟨rfl,_,rfl,lf,rfl,⟨_,KW.of (s2 _ _ hfu)⟩,?_⟩
   have hfl:∀ f∈x.fs,f.1.length<=8/\f.2.length<=8:=fun f hf=>Ap f (G.f f hf).1 (hst f hf)
   have hpl:=sL hfp
   refine iN (K:=K) (a:=lf) (xs:=fu) (fun j ys H'=>H'=H2/\ys=cX (mD (x.fs.take j))) ⟨rfl,rfl⟩ (fun j ys H' hj ⟨a1,a2⟩=>by
     subst a1 a2
     refine ⟨KW.of (s2 _ _ hfu),?_⟩
     rw [cL]
     unfold mD
     rw [GC,GG]
     lia) ?_ ?_
   ·rintro j u ys H3 hu ⟨rfl,rfl⟩
    obtain ⟨f,hf,pf,rfl,hpf⟩:=gr hfp hu
    have hjl:=(GA.mp hu).1
    obtain ⟨l1,l2⟩:=hfl f (GM hf)
    obtain ⟨E1,E2⟩:=F0 f
    have hsp:(" ":Str).length=1:=by decide +kernel
    refine ⟨pf,_,rfl,KP.of (s2 _ _ hpf),rfl,_,_,rfl,_,_,rfl,rfl,trivial,fW ?_⟩
    refine ⟨_,rfl,_,_,rfl,rfl,by lia,_,rfl,S (cp f.1++[32]),f.2,congrArg V.str E1,rfl,by rw [aG,Gy,mt];simp;lia,?_⟩
    rw [E2]
    refine Nx.mk hjl ⟨rfl,?_⟩
    rw [GX,hf]
    unfold mD cX
    simp
   ·rintro ys H3 ⟨rfl,rfl⟩ l3 n3
    rw [hpl,GV]
    generalize zz:aI H3 l3 _=H4
    have s3:KO H3 H4:=zz ▸ ad n3
    have e3:H4 l3=some (.lst (cX (mD x.fs))):=zz ▸ ac
    clear zz
    refine ⟨[32,44,32],l3,_,congrArg V.str FZ,rfl,KW.of e3,?_,?_⟩
    ·have:=iB 17 (mD x.fs) (fun t ht=>by
      obtain ⟨f,hf,rfl⟩:=G0.mp ht
      obtain ⟨l1,l2⟩:=hfl f hf
      rw [Gy,GB,mt,mt]
      lia)
     have hfc:(mD x.fs).length=x.fs.length:=by unfold mD;rw [GC]
     rw [hfc] at this ⊢
     simp only [GB,GL]
     lia
    rw [yr]
    refine ⟨_,rfl,aW,fun l4 n4=>?_⟩
    have s4:=ad (o:=.lst [V.str "kind",.str x.name,.str "("]) n4
    have e4:(aI H4 l4 (.lst [V.str "kind",.str x.name,.str "("])) l4=some (.lst (cX [cp "kind",cp x.name,cp "("])):=by
     have:=gy [("kind":Str),x.name,("(":Str)]
     rw [show cX [cp "kind",cp x.name,cp "("]=ai [("kind":Str),x.name,("(":Str)] from this]
     exact ac
    generalize aI H4 l4 (.lst [V.str "kind",.str x.name,.str "("])=H5 at *
    refine ⟨_,rfl,aW,fun l5 n5=>?_⟩
    generalize zz:aI H5 l5 _=H6
    have s5:KO H5 H6:=zz ▸ ad n5
    have e5:H6 l5=some (.lst [V.str (S (au (cW x.fs)))]):=zz ▸ ac
    clear zz
    refine ⟨l5,rfl,⟨_,KW.of e5⟩,?_⟩
    refine iN (K:=K) (a:=l5) (xs:=[V.str (S (au (cW x.fs)))]) (fun j ys H'=>H'=H6/\ys=if j=0 then [] else cX ((qK x.fs).map au)) ⟨rfl,rfl⟩ (fun j ys H' hj ⟨a1,a2⟩=>by
      subst a1 a2
      refine ⟨KW.of e5,?_⟩
      split
      ·exact Hj _
      ·rw [cL,GC]
       unfold qK
       split<;>simp<;>lia) ?_ ?_
    ·rintro j u ys H7 hu ⟨rfl,rfl⟩
     have hj0:j=0:=by
      have:=(GA.mp hu).1
      simpa using this
     subst hj0
     obtain rfl:V.str (S (au (cW x.fs)))=u:=by simpa using hu
     refine ⟨trivial,?_⟩
     refine ⟨_,rfl,rfl,_,rfl,bU (fun h=>?_) (fun h=>?_)⟩
     ·refine ⟨_,rfl,Nx.mk (by simp) ⟨rfl,?_⟩⟩
      have Jb:¬ x.fs=[]:=fun e=>by
       have:=(ny x.fs).mpr e
       rw [this] at h
       revert h
       decide +kernel
      unfold qK
      rw [if_neg Jb]
      rfl
     ·refine Nx.mk (by simp) ⟨rfl,?_⟩
      have he:x.fs=[]:=by
       by_cases e:x.fs=[]
       ·exact e
       ·exfalso
        apply h
        have:V.str (S (au (cW x.fs)))≠V.str "":=fun z=>e ((ny x.fs).mp (V.str.inj z))
        simpa using this
      unfold qK
      rw [if_pos he]
      rfl
    ·rintro ys H7 ⟨rfl,rfl⟩ l8 n8
     rw [if_neg (by simp)]
     generalize zz:aI H7 l8 _=H8
     have s8:KO H7 H8:=zz ▸ ad n8
     have e8:H8 l8=some (.lst (cX ((qK x.fs).map au))):=zz ▸ ac
     clear zz
     have hi1:((qK x.fs).map au).length<=1:=by
      rw [GC]
      unfold qK
      split<;>simp
     refine yt ((s5.trans s8) _ _ e4) e8 (by simp only [GB,GL];lia) fun l9 H9 s9 n9 e9=>?_
     refine ⟨aW,fun l10 n10=>?_⟩
     have s10:=ad (o:=.lst [V.str ")"]) n10
     have e10:(aI H9 l10 (.lst [V.str ")"])) l10=some (.lst (cX [cp ")"])):=by
      rw [show cX [cp ")"]=ai [(")":Str)] from gy [(")":Str)]]
      exact ac
     generalize aI H9 l10 (.lst [V.str ")"])=H10 at *
     refine yt (s10 _ _ e9) e10 (by simp only [Gy,GB,GL];lia) fun l11 H11 s11 n11 e11=>?_
     have s2_11:=(((((s3.trans s4).trans s5).trans s8).trans s9).trans s10).trans s11
     have s0_11:=s2.trans s2_11
     have e2':=s2_11 _ _ e2
     refine ⟨_,rfl,.inl ⟨rfl,_,KW.of e2'⟩,?_⟩
     refine ⟨rfl,_,rfl,_,rfl,_,rfl,_,rfl,b,d,lf,D.width,D.places,D.marks,x.fs,x.dd,mk - 1,rfl,hb.kt (al s0_11),⟨⟨_,_,_,s0_11 _ _ hV.ed,hV.v1,hV.v4,hV.v5,s0_11 _ _ hV.ep,s0_11 _ _ hV.em⟩,MV.same ⟨fu,hfu,hfp⟩ s0_11,hD.w24,G⟩,by lia,by decide,z9 hK.dd (show mc<=3 by lia),fun H12 Jd=>?_⟩
     rw [<-hK.bd]
     refine ⟨aW,fun l13 n13=>?_⟩
     generalize zz:aI H12 l13 _=H13
     have s13:KO H12 H13:=zz ▸ ad n13
     have e13:H13 l13=some (.lst (cX [au (cV x.bd)])):=zz ▸ ac
     clear zz
     refine yt ((Jd.trans s13) _ _ e11) e13 (by simp only [Gy,GB,GL];lia) fun l14 H14 s14 n14 e14=>?_
     have hbl:(au (cV x.bd)).length<=9*(cV x.bd).length:=bC fun z hz=>pb hD hxm z (GN _ hz)
     have hbl2:(cV x.bd).length<=(bL D).length:=by
      have h1:=fI hxm
      have h2:(cV x.bd).length<=(bF x).length:=by unfold bF;rw [Gy];lia
      unfold bL
      rw [Gy]
      lia
     have hil2:∀ t∈(qK x.fs).map au,t.length<=200:=by
      intro t ht
      obtain ⟨g,hg,rfl⟩:=G0.mp ht
      unfold qK at hg
      split at hg
      ·cases hg
      ·rw [G8.mp hg]
       have:=bC (zs:=cW x.fs) (x6 fun f hf=>⟨(G.f f hf).1,hst f hf⟩)
       rw [jf] at this
       lia
     have hnl:(cp x.name).length<=8:=(hD.kf x hxm).1.len
     refine ⟨[32],l14,_,congrArg V.str jZ,rfl,KW.of e14,?_,?_⟩
     ·have hsl:=iB 14000 ([cp "kind",cp x.name,cp "("]++(qK x.fs).map au++[cp ")"]++[au (cV x.bd)]) (fun t ht=>by
       simp only [GP,GF,GH,or_false] at ht
       rcases ht with (((rfl|rfl|rfl)|ht)|rfl)|rfl
       ·decide +kernel
       ·lia
       ·decide +kernel
       ·have:=hil2 t ht;lia
       ·decide +kernel
       ·lia)
      have IQ:([cp "kind",cp x.name,cp "("]++(qK x.fs).map au++[cp ")"]++[au (cV x.bd)]).length<=6:=by
       simp only [Gy,GB,GL]
       lia
      have h6:=Nat.mul_le_mul_right 14000 IQ
      generalize ([cp "kind",cp x.name,cp "("]++(qK x.fs).map au++[cp ")"]++[au (cV x.bd)])=ts at *
      simp only [GB,GL]
      lia
     rw [Ar x]
     have s2_14:=((s2_11.trans Jd).trans s13).trans s14
     refine ⟨lr,_,_,rfl,rfl,s2_14 _ _ e2,?_,?_⟩
     ·rw [cL]
      unfold eD
      rw [GB,GC,GG]
      lia
     refine ⟨_,_,_,_,_,rfl,bK nlr (s2.trans s2_14),?_⟩
     rw [ac]
     congr 2
     unfold eD cX
     rw [GX,hx]
     simp
  ·rintro σ H2 ⟨v3,v4,v5,v6,v7,rfl,s2,e2⟩
   rw [sL hV.ks,GV] at e2
   refine ⟨rfl,_,rfl,[10],lr,eD D D.kinds,congrArg V.str CB,rfl,KW.of e2,?_,q _ s2⟩
   have hh:=bC (ub hD)
   have h5:=mX (zs:=D.kinds) fun x hx=>by
    have:=bC (pb hD hx)
    lia
   unfold eD
   rw [GO,Ir,GB,GC]
   simp only [GB,GL]
   have h6:(cK D).length+(D.kinds.flatMap bF).length<=1500:=by
    unfold bL at hFl
    rw [Gy] at hFl
    exact hFl
   lia
def F8:List Nat:=(List.range 26).map (97+·)++(List.range 10).map (48+·)
theorem F9:("abcdefghijklmnopqrstuvwxyz0123456789":Str)=S F8:=by decide +kernel
theorem Da (c:Nat):decide (c∈F8)=((decide (97<=c) && decide (c<=122)) || (decide (48<=c) && decide (c<=57))):=by
 rw [HG]
 unfold F8
 simp only [decide_eq_true_eq,GP,G0,HE,Bool.or_eq_true,HU]
 constructor
 ·rintro (⟨k,hk,rfl⟩|⟨k,hk,rfl⟩)
  ·left;lia
  ·right;lia
 ·rintro (h|h)
  ·left;exact ⟨c - 97,by lia,by lia⟩
  ·right;exact ⟨c - 48,by lia,by lia⟩
inductive yy (vs:List V) (H:Hp) (Q:VK) (Z3:XK):Prop
 | mk (z:Str):vs=[.str z]->Lg z->Q (.bl (qI z)) H->yy vs H Q Z3
def Nm:List (List Nat):=[[32],[10],[32,32],[32,10]]
def Nh:List (List Nat):=[[],[32],[10],[32,32]]
def NC:List (List Nat):=[[],[32],[10,32,10]]
def NJ:List (List Nat):=[[],[32],[10]]
theorem As:((" ":Str)=S [32])/\(("\n":Str)=S [10])/\(("  ":Str)=S [32,32])/\((" \n":Str)=S [32,10])/\(("":Str)=S [])/\(("\n \n":Str)=S [10,32,10]):=by decide +kernel
theorem EV {r:Nat} (h:r < 4):([V.str " ",.str "\n",.str "  ",.str " \n"]:List V)[r]?=some (.str (S (Nm.getD r []))):=by
 obtain ⟨e1,e2,e3,e4,e5,e6⟩:=As
 rw [e1,e2,e3,e4]
 match r,h with
 | 0,_=>rfl
 | 1,_=>rfl
 | 2,_=>rfl
 | 3,_=>rfl
theorem Bf {r:Nat} (h:r < 4):([V.str "",.str " ",.str "\n",.str "  "]:List V)[r]?=some (.str (S (Nh.getD r []))):=by
 obtain ⟨e1,e2,e3,e4,e5,e6⟩:=As
 rw [e1,e2,e3,e5]
 match r,h with
 | 0,_=>rfl
 | 1,_=>rfl
 | 2,_=>rfl
 | 3,_=>rfl
theorem EW {r:Nat} (h:r < 3):([V.str "",.str " ",.str "\n \n"]:List V)[r]?=some (.str (S (NC.getD r []))):=by
 obtain ⟨e1,e2,e3,e4,e5,e6⟩:=As
 rw [e1,e6,e5]
 match r,h with
 | 0,_=>rfl
 | 1,_=>rfl
 | 2,_=>rfl
theorem EY {r:Nat} (h:r < 3):([V.str "",.str " ",.str "\n"]:List V)[r]?=some (.str (S (NJ.getD r []))):=by
 obtain ⟨e1,e2,e3,e4,e5,e6⟩:=As
 rw [e1,e2,e5]
 match r,h with
 | 0,_=>rfl
 | 1,_=>rfl
 | 2,_=>rfl
theorem EZ:∀ r < 4,(∀ c∈Nm.getD r [],TK.dI c=true)/\Nm.getD r []≠[]/\(Nm.getD r []).length<=2:=by decide
theorem Bg:∀ r < 4,(∀ c∈Nh.getD r [],TK.dI c=true)/\(Nh.getD r []).length<=2:=by decide
theorem Bh:∀ r < 3,(∀ c∈NC.getD r [],TK.dI c=true)/\(NC.getD r []).length<=3:=by decide
theorem E3:∀ r < 3,(∀ c∈NJ.getD r [],TK.dI c=true)/\(NJ.getD r []).length<=3:=by decide
theorem yz (a:List Nat) (z:Str):S a++z=S (a++cp z):=by
 conv=>lhs;rw [<-eX z]
 rw [bA]
variable {ts:List Str}
theorem vD {t:List Nat} (hz:ts[0]?=some z) (hT:Lg z) (h:vG (ts.take 0) t):vG (ts.take (0+1)) (t++cp z):=by
 have hg:∀ c∈t,TK.dI c=true:=by
  rw [List.take_zero] at h
  generalize e:([]:List Str)=l at h
  cases h with
  | nil hg=>exact hg
  | fst _ _=>cases e
  | snoc _ _ _ _ _ _=>simp at e
 have e:ts.take (0+1)=[z]:=by
  rw [GX,hz]
  rfl
 rw [e]
 exact .fst hg hT
theorem yA {y z:Str} {t g:List Nat} (hy:ts[i]?=some y) (hz:ts[i+1]?=some z) (hT:∀ z∈ts,Lg z) (hN:Nl ts) (h:vG (ts.take (i+1)) t) (hg:∀ c∈g,TK.dI c=true) (hw:qI y=true->qI z=true->g≠[]):vG (ts.take (i+1+1)) (t++g++cp z):=by
 have e1:ts.take (i+1)=ts.take i++[y]:=by
  rw [GX,hy]
  rfl
 have e2:ts.take (i+1+1)=ts.take i++[y]++[z]:=by
  rw [GX,hz,e1]
  rfl
 rw [e1] at h
 rw [e2]
 exact .snoc h hg (hT y (GM hy)) (hT z (GM hz)) hw (Bc hN hy hz)
inductive jQ (vs:List V) (H:Hp) (Q:VK) (Z3:XK):Prop
 | mk (p l ts:_):vs=[.ref p,.ref l]->K3 H p->H l=some (.lst (ai ts))->(∀ z∈ts,Lg z)->Nl ts->ts≠[]->ts.length<=1500->(∀ t H',K3 H' p->K8 p H H'->TK.toks t=ts.map cp->t.length<=20000->Q (.str (S t)) H')->jQ vs H Q Z3
theorem Au (m:Nat):∃ k:Nat,k<=1/\V.int (if decide ((m:Int) < 2)=true then 1 else 0)=V.int (k:Int):=by
 by_cases h:(m:Int) < 2
 ·exact ⟨1,GE _,by rw [decide_eq_true h];rfl⟩
 ·exact ⟨0,Hj _,by rw [decide_eq_false h];rfl⟩
variable {v:V}
theorem sM {xs:List V} {a b:Int} (e:a*b=(n:Int)) (h:xs[n]?=some v):nG xs (a*b)=some v:=by rw [e];exact bf h
theorem E4:ay ["_law_token"] ["_law_token"] (aj n0):=cH (by decide +kernel)
theorem Db (F:K7 K "_law_is_word" "_law_is_word" n0 f fd):KU P w K mg base bY 1 f fd ["_law_token"] yy:=by
 have ZZ:=E4
 walk_at "o"
 ·obtain ⟨z,rfl,hT,q⟩:=h
  refine ⟨_,ah (ao (cn dW (aq ib (pv 0) ag (fun _ _=>rfl)) af rfl)),?_⟩
  have hle:=hT.le
  cases e:cp z with
  | nil=>exact absurd e hT.tok.ne
  | cons c r=>
   have ez:z=S (c::r):=by rw [<-e,eX]
   have hi:0 < (c::r).length:=by simp
   refine ⟨_,rfl,z,0,c,rfl,rfl,?_,?_,_,_,rfl,rfl,?_⟩
   ·rw [ez,aG,<-e]
    have sz:(100000:Nat)<=sizeLine:=by decide
    lia
   ·rw [ez]
    exact gI hi
   ·have et:(⟨#[c]⟩:Str)=S [c]:=rfl
    rw [et,F9,fA,Da]
    have ew:qI z=((decide (97<=c) && decide (c<=122)) || (decide (48<=c) && decide (c<=57))):=by
     unfold qI
     rw [e]
    rw [ew] at q
    exact q
theorem LK:ay ["_law_stream_here","_law_tokens","_law_mode","_law_found","_law_k","_law_token","_law_way"] ["_law_stream_here","_law_tokens"] (aj lF):=cH (by decide +kernel)
theorem Dc (F:K7 K "_law_spelled" "_law_spelled" lF f fd) (B:Bl mg) (B3:zF mg) (TK':Fn P w K mg base "_law_take" 1 ["_law_stream_here","_law_many"] eB) (IW:Fn P w K mg base "_law_is_word" 1 ["_law_token"] yy):KU P w K mg base bY 2 f fd ["_law_stream_here","_law_tokens"] jQ:=by
 have ZZ:=LK
 walk_at "o"
 ·obtain ⟨p,l,ts,rfl,hp,hl,hT,hN,Jb,IQ,q⟩:=h
  have sz:(100000:Nat)<=sizeLine:=by decide
  refine ⟨_,ae (ap (i:=2) LK.nd rfl (Or.inl rfl) (am TK' hr rfl (aa (pv 0) (aa ag ab))))
   (ae (ap (i:=3) LK.nd rfl (Or.inl rfl) (aq aL (aB (aa af (aa af (aa af ab)))) (am TK' hr rfl (aa (pv 0) (aa ag ab))) (fun _ _=>rfl)))
   (ae (cr PassesOwn.never rfl (LO rfl B3.enumerate (aa (pv 1) ab)) (cB rfl (aA (az (i:=4) LK.nd rfl (Or.inl rfl)) (aA (az (i:=5) LK.nd rfl (Or.inl rfl)) bi)))
    (ae (aM (ak kJ (pv 4) ag (av _))
     (ae (ap (i:=6) LK.nd rfl (Or.inl rfl) (ar fv (am TK' hr rfl (aa (pv 0) (aa ag ab))) (aU dX (by rfl) B.int HB (aa (cn dD (pv 2) ag (av _)) ab))))
     (ah (aM (PW.pt (bZ (dA (am IW hr rfl (aa (aq aL (pv 1) (ar eR (pv 4) ag) (fun _ _=>rfl)) ab))) (bJ (dA (am IW hr rfl (aa (pv 5) ab))))))
      (ah (ap (i:=3) LK.nd rfl (Or.inl rfl) (ar aJ (pv 3) (aq aL (aB (aa af (aa af (aa af (aa af ab))))) (pv 6) (fun _ _=>rfl)))))
      (ah (ap (i:=3) LK.nd rfl (Or.inl rfl) (ar aJ (pv 3) (aq aL (aB (aa af (aa af (aa af (aa af ab))))) (pv 6) (fun _ _=>rfl))))))))
     aH)
    (ah (ap (i:=3) LK.nd rfl (Or.inl rfl) (ar aJ (pv 3) (pv 5))))))
   (ah (ao (ar aJ (pv 3) (aq aL (aB (aa af (aa af (aa af ab)))) (am TK' hr rfl (aa (pv 0) (aa ag ab))) (fun _ _=>rfl))))))),?_⟩
  refine ⟨_,rfl,p,3,rfl,hp,by decide,by decide,fun IX H1 hm g1 b1=>?_⟩
  refine ⟨aW,fun l1 n1=>?_⟩
  have s2:=ad (o:=.lst [V.str "",.str " ",.str "\n \n"]) n1
  have e2:(aI H1 l1 (.lst [V.str "",.str " ",.str "\n \n"])) l1=some (.lst [V.str "",.str " ",.str "\n \n"]):=ac
  have n1p:=g1.ne n1
  have g2:=g1.same s2
  have b2:=b1.same s2
  generalize aI H1 l1 (.lst [V.str "",.str " ",.str "\n \n"])=H2 at *
  refine ⟨_,rfl,p,3,rfl,g2,by decide,by decide,fun r0 H3 hr0 g3 b3=>?_⟩
  refine ⟨l1,_,_,_,rfl,rfl,KW.of (b3 _ _ e2 n1p.symm),bf (EW hr0),?_⟩
  have b03:=b2.trans b3
  have hlp:l≠p:=bG hp hl (cu ts)
  have hl3:=b03 _ _ hl hlp
  refine ⟨_,rfl,l,rfl,⟨_,KW.of hl3⟩,?_⟩
  refine Nn (K:=K) (l:=l) (xs:=ai ts) (fun i σ H'=>∃ (t:List Nat) (v4 v5 v6:Option V),σ=[some (.ref p),some (.ref l),some (.int IX),some (.str (S t)),v4,v5,v6]/\K3 H' p/\K8 p H H'/\vG (ts.take i) t/\t.length<=3+10*i) ⟨NC.getD r0 [],none,none,none,rfl,g3,b03,by rw [List.take_zero];exact .nil (Bh r0 hr0).1,(Bh r0 hr0).2⟩ (fun i σ H' _ ⟨_,_,_,_,_,_,b',_,_⟩=>KW.of (b' _ _ hl hlp)) ?_ ?_
  ·rintro i x σ H4 T hx nT ⟨t,v4,v5,v6,rfl,g4,b4,hS,htl⟩
   obtain ⟨z,hz,rfl⟩:=gR hx
   have hil:=(GA.mp hz).1
   have hzT:=hT z (GM hz)
   have hzl:=hzT.le
   have hzl2:z.length<=8:=by rw [<-mt];exact hzl
   have s5:=ad (o:=.tup [.int (i:Int),.str z]) nT
   have g5:=g4.same s5
   have b5:=b4.same s5
   refine ⟨T,_,rfl,KP.of ac,rfl,_,_,rfl,_,_,rfl,rfl,?_⟩
   generalize aI H4 T (.tup [.int (i:Int),.str z])=H5 at *
   have hl5:=b5 _ _ hl hlp
   refine ⟨_,rfl,_,_,rfl,rfl,_,rfl,bU (fun h=>?_) (fun h=>?_)⟩
   ·have hi0:0 < i:=by simpa using h
    obtain ⟨j,rfl⟩:∃ j,i=j+1:=⟨i - 1,by lia⟩
    obtain ⟨y,hy⟩:∃ y,ts[j]?=some y:=⟨ts[j],GJ (by lia)⟩
    have hyT:=hT y (GM hy)
    refine ⟨_,rfl,p,4,rfl,g5,by decide,by decide,fun r H6 hr6 g6 b6=>?_⟩
    obtain ⟨m1,hm1,em⟩:=Au IX
    obtain ⟨wy,ewy⟩:∃ wy:Nat,wy=r*m1:=⟨_,rfl⟩
    have hwy4:wy < 4:=by
     have:=Nat.mul_le_mul_left r hm1
     lia
    refine ⟨_,rfl,_,_,rfl,rfl,.inr ⟨_,rfl,(r:Int),(m1:Int),rfl,em,.inl ⟨by lia,by lia⟩,?_⟩⟩
    have ewy':(r:Int)*(m1:Int)=(wy:Int):=by rw [ewy];simp
    have b06:=b5.trans b6
    have hl6:=b06 _ _ hl hlp
    have ej:(((j+1:Nat):Int) - 1)=(j:Int):=by lia
    have fin:∀ (g:List Nat) (H7:Hp) (v6:Option V),K3 H7 p->K8 p H H7->(∀ c∈g,TK.dI c=true)->(qI y=true->qI z=true->g≠[])->g.length<=2->(S (t++g)).length+z.length<=sizeLine/\(S (t++g)++z=S (t++g++cp z))/\vG (ts.take (j+1+1)) (t++g++cp z)/\(t++g++cp z).length<=3+10*(j+1+1):=by
     intro g H7 v6 g7 b7 hg hw hgl
     refine ⟨?_,yz _ _,yA hy hz hT hN hS hg hw,?_⟩
     ·rw [aG,Gy]
      lia
     ·rw [Gy,Gy]
      lia
    refine ⟨_,rfl,_,rfl,_,_,rfl,rfl,l,_,_,_,rfl,rfl,KW.of hl6,?_,y,rfl,hyT,_,rfl,bU (fun h1=>?_) (fun h1=>?_)⟩
    ·show nG (ai ts) (((j+1:Nat):Int) - 1)=_
     rw [ej]
     exact bf (by unfold ai;rw [GY,hy];rfl)
    ·refine ⟨_,rfl,z,rfl,hzT,_,rfl,bU (fun h2=>?_) (fun h2=>?_)⟩
     ·refine ⟨_,rfl,aW,fun l7 n7=>?_⟩
      have s7:=ad (o:=.lst [V.str " ",.str "\n",.str "  ",.str " \n"]) n7
      obtain ⟨k1,k2,k3⟩:=EZ wy hwy4
      obtain ⟨f1,f2,f3,f4⟩:=fin (Nm.getD wy []) _ none (g6.same s7) (b06.same s7) k1 (fun _ _=>k2) k3
      refine ⟨_,rfl,l7,_,_,_,rfl,rfl,KW.of ac,sM ewy' (EV hwy4),_,_,rfl,rfl,by rw [aG,aG];lia,?_⟩
      rw [bA]
      refine ⟨_,rfl,_,rfl,_,_,rfl,rfl,f1,?_⟩
      rw [f2]
      exact ⟨_,_,_,_,rfl,g6.same s7,b06.same s7,f3,f4⟩
     ·refine ⟨_,rfl,aW,fun l7 n7=>?_⟩
      have s7:=ad (o:=.lst [V.str "",.str " ",.str "\n",.str "  "]) n7
      obtain ⟨k1,k3⟩:=Bg wy hwy4
      obtain ⟨f1,f2,f3,f4⟩:=fin (Nh.getD wy []) _ none (g6.same s7) (b06.same s7) k1 (fun _ e=>absurd e h2) k3
      refine ⟨_,rfl,l7,_,_,_,rfl,rfl,KW.of ac,sM ewy' (Bf hwy4),_,_,rfl,rfl,by rw [aG,aG];lia,?_⟩
      rw [bA]
      refine ⟨_,rfl,_,rfl,_,_,rfl,rfl,f1,?_⟩
      rw [f2]
      exact ⟨_,_,_,_,rfl,g6.same s7,b06.same s7,f3,f4⟩
    ·refine ⟨_,rfl,aW,fun l7 n7=>?_⟩
     have s7:=ad (o:=.lst [V.str "",.str " ",.str "\n",.str "  "]) n7
     obtain ⟨k1,k3⟩:=Bg wy hwy4
     obtain ⟨f1,f2,f3,f4⟩:=fin (Nh.getD wy []) _ none (g6.same s7) (b06.same s7) k1 (fun e _=>absurd e h1) k3
     refine ⟨_,rfl,l7,_,_,_,rfl,rfl,KW.of ac,sM ewy' (Bf hwy4),_,_,rfl,rfl,by rw [aG,aG];lia,?_⟩
     rw [bA]
     refine ⟨_,rfl,_,rfl,_,_,rfl,rfl,f1,?_⟩
     rw [f2]
     exact ⟨_,_,_,_,rfl,g6.same s7,b06.same s7,f3,f4⟩
   ·have hi0:i=0:=by
     have:¬ 0 < i:=fun z=>h (by simpa using z)
     lia
    subst hi0
    refine ⟨_,rfl,_,rfl,_,_,rfl,rfl,by rw [aG];lia,?_⟩
    rw [yz]
    exact ⟨_,_,_,_,rfl,g5,b5,vD hz hzT hS,by rw [Gy];lia⟩
  ·rintro σ H4 ⟨t,v4,v5,v6,rfl,g4,b4,hS,htl⟩
   rw [aY,GV] at hS
   rw [aY] at htl
   refine ⟨_,rfl,aW,fun l5 n5=>?_⟩
   have s5:=ad (o:=.lst [V.str "",.str " ",.str "\n"]) n5
   have e5:(aI H4 l5 (.lst [V.str "",.str " ",.str "\n"])) l5=some (.lst [V.str "",.str " ",.str "\n"]):=ac
   have n5p:=g4.ne n5
   have g5:=g4.same s5
   have b5:=b4.same s5
   generalize aI H4 l5 (.lst [V.str "",.str " ",.str "\n"])=H5 at *
   refine ⟨_,rfl,p,3,rfl,g5,by decide,by decide,fun r6 H6 hr6 g6 b6=>?_⟩
   obtain ⟨k1,k2⟩:=E3 r6 hr6
   refine ⟨l5,_,_,_,rfl,rfl,KW.of (b6 _ _ e5 n5p.symm),bf (EY hr6),_,_,rfl,rfl,by rw [aG,aG];lia,?_⟩
   rw [bA]
   exact q _ _ g6 (b5.trans b6) (Ak hS Jb hT k1) (by rw [Gy];lia)
theorem De (h:Lg z):li z=true:=by
 unfold li
 simp only [PyData.canLay0]
 unfold PyData.strOk
 rw [Array.all_eq_true']
 intro c hc
 have hm:c∈cp z:=by unfold cp;simpa using hc
 rcases h.cl with h'|h'
 ·have:=h' c hm
  unfold dj at this
  exact decide_eq_true (by lia)
 ·have:∀ t∈qA,∀ c∈t,c < 128:=by decide
  have:=this _ h' c hm
  exact decide_eq_true (by lia)
theorem qL:∀ l:List Str,PyData.eqvAll (l.map PyData.str) (l.map PyData.str)=true
 | []=>rfl
 | x::l=>by simp [PyData.eqvAll,PyData.eqv,qL l]
theorem fK:∀ l:List Str,PyData.depthAll (l.map PyData.str)<=0
 | []=>by simp [PyData.depthAll]
 | x::r=>by
  have:=fK r
  simp only [GO,PyData.depthAll,PyData.depth]
  lia
variable {Q:V->Hp->Prop}
theorem qM {a b:Addr} {l:List Str} (ho:∀ z∈l,li z=true) (ha:H a=some (.lst (ai l))) (hb:H b=some (.lst (ai l))) (q:Q (.bl false) H):MZ K (.ref a) (.ref b) H Q:=by
 refine ⟨_,_,.lst (KW.of ha) (fJ l),.lst (KW.of hb) (fJ l),i8 ho,i8 ho,?_,?_⟩
 ·have:=fK l
  simp only [PyData.depth]
  lia
 ·have:PyData.eqv (.list (l.map PyData.str)) (.list (l.map PyData.str))=true:=by simp only [PyData.eqv];exact qL l
  rw [this]
  exact q
def Fd:Ee->PyData
 | .w0 s=>.tuple [.str s]
 | .fault z=>.tuple [.str "fault",.str z]
 | .go s j=>.tuple [.str s,.int (j:Nat)]
def Fe (t:Tt):PyData:=.tuple [.str (Ek t),.tuple [.str (eC (AW t).1),.int ((AW t).2:Nat)]]
def Df:Dd->PyData
 | .leaf s e=>.tuple [.str "leaf",.tuple (s.map A5),Fd e]
 | .ite t y n=>.tuple [.str "if",Fe t,Df y,Df n]
def Dg (x:Kn):PyData:=.tuple [.str x.name,.tuple (x.fs.map fun f=>.tuple [.str f.1,.str f.2]),Df x.dd]
def Bi (D:Fm):PyData:=match D.gates with
 | []=>.none
 | z::_=>.str z
def jW (D:Fm):List PyData:=[.int (D.width:Nat),.int (D.cells:Nat),.int (D.depth:Nat),.tuple (D.places.map PyData.str),.tuple (D.marks.map PyData.str),Bi D,.tuple (D.kinds.map Dg)]
theorem Nr.td {fs:List (Str×Str)} {e:Ee} (h:Nr H e v) (ho:lZ fs e):Td H v (Fd e):=by
 cases e with
 | w0 s=>
  obtain ⟨p,rfl,e⟩:=h
  have:∀ z∈(["next","back","stop"]:List Str),li z=true:=by decide +kernel
  exact .tup e (.cons (.str _ (this s ho)) .nil)
 | fault z=>
  obtain ⟨p,rfl,e⟩:=h
  exact .tup e (.cons (.str _ (by decide +kernel)) (.cons (.str _ (fk ho.1)) .nil))
 | go s j=>
  obtain ⟨p,rfl,e⟩:=h
  have:∀ z∈(["go","call"]:List Str),li z=true:=by decide +kernel
  exact .tup e (.cons (.str _ (this s ho.1)) (.cons (.int _) .nil))
theorem Dh (t:Tt):li (Ek t)=true:=by
 cases t with
 | top b n=>show li "top"=true;decide +kernel
 | pl b n=>show li "place"=true;decide +kernel
 | mk b n=>show li "mark"=true;decide +kernel
theorem No.td {t:Tt} (h:No H t v):Td H v (Fe t):=by
 obtain ⟨p,u,rfl,e,hs⟩:=h
 exact .tup e (.cons (.str _ (Dh t)) (.cons hs.td .nil))
variable {ps:List Str} {W m:Nat}
theorem Mz.td {fs:List (Str×Str)}:∀ {c:Nat} {d:Dd} {v:V},Mz H d v->eG W ps ms fs m c d->Td H v (Df d)
 | c,.leaf s e,v,h,ho=>by
  have h':s.length<=4/\(s.filter Sd.isCell).length<=1/\(∀ g∈s,eE W ps ms fs m g)/\lZ fs e:=by cases c<;>exact ho
  obtain ⟨p,q,us,u,rfl,e1,e2,hp,he⟩:=h
  exact .tup e1 (.cons (.str _ (by decide +kernel)) (.cons (.tup e2 (sr hp h'.2.2.1)) (.cons (he.td h'.2.2.2) .nil)))
 | 0,.ite _ _ _,_,_,ho=>absurd ho (by simp [eG])
 | c+1,.ite t y n,v,h,ho=>by
  obtain ⟨p,u,a,b,rfl,e1,ht,hy,hn⟩:=h
  exact .tup e1 (.cons (.str _ (by decide +kernel)) (.cons ht.td (.cons (Mz.td (c:=c) hy ho.2.1) (.cons (Mz.td (c:=c) hn ho.2.2) .nil))))
theorem uo:∀ {us:List V} {fs:List (Str×Str)},Paired (Lf H) us fs->(∀ f∈fs,li f.1=true/\li f.2=true)->K9 H us (fs.map fun f=>PyData.tuple [.str f.1,.str f.2])
 | _,_,.nil,_=>.nil
 | _,_,.cons ⟨p,e,h⟩ t,ho=>by
  subst e
  have h0:=ho _ Gz
  exact .cons (.tup h (.cons (.str _ h0.1) (.cons (.str _ h0.2) .nil))) (uo t fun f hf=>ho f (GD _ hf))
variable {u:V}
theorem Ma.td {fn:List Str} (hD:jV D fn gt) {x:Kn} (hx:x∈D.kinds) (h:Ma H u x):Td H u (Dg x):=by
 obtain ⟨c,k,hm,hk⟩:=hD.kl
 obtain ⟨p,tf,b,us,rfl,e1,e2,hp,hb⟩:=h
 have so:∀ z∈dv,li z=true:=by decide +kernel
 exact .tup e1 (.cons (.str _ (fk (hD.kf x hx).1)) (.cons (.tup e2 (uo hp fun f hf=>⟨fk ((nq hD hx).f f hf).1,so _ (ml hD hx f hf)⟩)) (.cons (hb.td (hk x hx).dd) .nil)))
theorem yB:∀ {us:List V} {l:List Kn},Paired (Ma H) us l->(∀ x∈l,∀ u,Ma H u x->Td H u (Dg x))->K9 H us (l.map Dg)
 | _,_,.nil,_=>.nil
 | _,_,.cons h t,ho=>.cons (ho _ Gz _ h) (yB t fun x hx=>ho x (GD _ hx))
theorem pq:∀ {l:List Str},(∀ z∈l,li z=true)->K9 H (ai l) (l.map PyData.str)
 | [],_=>.nil
 | z::r,h=>.cons (.str z (h z Gz)) (pq fun x hx=>h x (GD _ hx))
inductive Ls (H:Hp) (v:V) (D:Fm):Prop
 | mk (p pp pm pk us:_):v=.ref p->H p=some (.tup [.int D.width,.int D.cells,.int D.depth,.ref pp,.ref pm,eL D,.ref pk])->H pp=some (.tup (ai D.places))->H pm=some (.tup (ai D.marks))->H pk=some (.tup us)->Paired (Ma H) us D.kinds->Ls H v D
theorem Ls.kt {H H':Hp} (k:K5 H H') (h:Ls H v D):Ls H' v D:=
 let ⟨p,pp,pm,pk,us,e,a,b,c,d,f⟩:=h
 ⟨p,pp,pm,pk,us,e,k _ _ a,k _ _ b,k _ _ c,k _ _ d,bS (fun _ _ h=>Ma.kt k h) f⟩
theorem kH {b:Nat}:∀ {ds:List PyData},(∀ d∈ds,d.depth<=b)->PyData.depthAll ds<=b
 | [],_=>by simp [PyData.depthAll]
 | d::r,h=>by
  have h1:=h d Gz
  have h2:=kH fun x hx=>h x (GD _ hx)
  simp only [PyData.depthAll]
  lia
theorem E5 {fs:List (Str×Str)} {g:Sd} (h:eE W ps ms fs m g):(A5 g).depth<=m+6:=by
 cases g with
 | cell a e=>
  have h1:=iE h.1
  have h2:=iE h.2
  simp only [A5,PyData.depth,PyData.depthAll]
  lia
 | pl b n e=>
  have h2:=iE h.2
  have h3:=xM b n
  simp only [A5,PyData.depth,PyData.depthAll] at h3 ⊢
  lia
 | mk b n e=>
  have h2:=iE h.2
  have h3:=xM b n
  simp only [A5,PyData.depth,PyData.depthAll] at h3 ⊢
  lia
theorem yC {fs:List (Str×Str)}:∀ {c:Nat} {d:Dd},eG W ps ms fs m c d->(Df d).depth<=m+8+c
 | c,.leaf s e,h=>by
  have h':s.length<=4/\(s.filter Sd.isCell).length<=1/\(∀ g∈s,eE W ps ms fs m g)/\lZ fs e:=by cases c<;>exact h
  have h1:PyData.depthAll (s.map A5)<=m+6:=kH fun d hd=>by
   obtain ⟨g,hg,rfl⟩:=G0.mp hd
   exact E5 (h'.2.2.1 g hg)
  have h2:(Fd e).depth<=1:=by cases e<;>simp [Fd,PyData.depth,PyData.depthAll]
  simp only [Df,PyData.depth,PyData.depthAll]
  lia
 | 0,.ite _ _ _,h=>absurd h (by simp [eG])
 | c+1,.ite t y n,h=>by
  have h1:=yC (c:=c) h.2.1
  have h2:=yC (c:=c) h.2.2
  have h3:(Fe t).depth<=2:=by simp [Fe,PyData.depth,PyData.depthAll]
  simp only [Df,PyData.depth,PyData.depthAll]
  lia
theorem uq {fn:List Str} (hD:jV D fn gt):(PyData.tuple (jW D)).depth<=60:=by
 obtain ⟨c,k,hm,hk⟩:=hD.kl
 have hmd:=mY hm
 have h1:=fK D.places
 have h2:=fK D.marks
 have h3:(Bi D).depth<=0:=by
  unfold Bi
  split<;>simp [PyData.depth]
 have h4:PyData.depthAll (D.kinds.map Dg)<=20:=kH fun d hd=>by
  obtain ⟨x,hx,rfl⟩:=G0.mp hd
  have h5:=yC (hk x hx).dd
  have h6:PyData.depthAll (x.fs.map fun f=>PyData.tuple [.str f.1,.str f.2])<=1:=kH fun d hd=>by
   obtain ⟨f,hf,rfl⟩:=G0.mp hd
   simp [PyData.depth,PyData.depthAll]
  simp only [Dg,PyData.depth,PyData.depthAll]
  lia
 simp only [jW,PyData.depth,PyData.depthAll]
 lia
theorem Ls.dt {fn:List Str} (hD:jV D fn gt) (h:Ls H v D):Dt K H v (.tuple (jW D))/\(PyData.tuple (jW D)).canLay0=true/\PyData.eqv (.tuple (jW D)) (.tuple (jW D))=true:=by
 obtain ⟨p,pp,pm,pk,us,rfl,e,e1,e2,e3,hk⟩:=h
 have oP:∀ z∈D.places,li z=true:=fun z hz=>fk (hD.nf z (by simp [hz])).1
 have oM:∀ z∈D.marks,li z=true:=fun z hz=>fk (hD.nf z (by simp [hz])).1
 have t1:Td H (.ref pp) (.tuple (D.places.map PyData.str)):=.tup e1 (pq oP)
 have t2:Td H (.ref pm) (.tuple (D.marks.map PyData.str)):=.tup e2 (pq oM)
 have t3:Td H (.ref pk) (.tuple (D.kinds.map Dg)):=.tup e3 (yB hk fun x hx u hu=>hu.td hD hx)
 have tg:Dt K H (eL D) (Bi D)/\(Bi D).canLay0=true/\PyData.eqv (Bi D) (Bi D)=true:=by
  have hgm:=gB hD
  unfold eL Bi
  cases eg:D.gates with
  | nil=>exact ⟨.non,rfl,by simp [PyData.eqv]⟩
  | cons z r=>exact ⟨.str z,oM z (hgm z (by rw [eg];simp)),by simp [PyData.eqv]⟩
 refine ⟨.tup (KP.of e) (.cons (.int _) (.cons (.int _) (.cons (.int _) (.cons t1.dt (.cons t2.dt (.cons tg.1 (.cons t3.dt .nil))))))),?_,?_⟩
 ·simp only [jW,PyData.canLay0,PyData.canLayAll0,tg.2.1,Bool.and_true,Bool.true_and]
  have l1:=t1.lay
  have l2:=t2.lay
  have l3:=t3.lay
  simp only [PyData.canLay0] at l1 l2 l3
  rw [l1,l2,l3]
  rfl
 ·have l1:=t1.eqv
  have l2:=t2.eqv
  have l3:=t3.eqv
  simp only [jW,PyData.eqv,PyData.eqvAll] at l1 l2 l3 ⊢
  rw [l1,l2,l3,tg.2.2]
  simp
theorem Av {fn:List Str} (hD:jV D fn gt) (h1:Ls H v D) (h2:Ls H u D) (q:Q (.bl true) H):Nw K v u H Q:=by
 obtain ⟨a1,a2,a3⟩:=h1.dt (K:=K) hD
 obtain ⟨b1,b2,b3⟩:=h2.dt (K:=K) hD
 have:=uq hD
 refine ⟨_,_,a1,b1,a2,b2,by lia,?_⟩
 rw [a3]
 exact q
theorem ur {fn:List Str} (hD:jV D fn gt) (h1:Ls H v D) (h2:Ls H u D) (q:Q (.bl false) H):MZ K v u H Q:=by
 obtain ⟨a1,a2,a3⟩:=h1.dt (K:=K) hD
 obtain ⟨b1,b2,b3⟩:=h2.dt (K:=K) hD
 have:=uq hD
 refine ⟨_,_,a1,b1,a2,b2,by lia,?_⟩
 rw [a3]
 exact q
inductive yD (C:Addr) (vs:List V) (H:Hp) (Q:VK) (Z3:XK):Prop
 | mk (v D:_):vs=[v]->Ly C H v D->(∀ u H',KO H H'->Ls H' u D->Q u H')->yD C vs H Q Z3
theorem uv:∀ vs H Q E,yD C vs H Q E->gP C vs H Q E:=by
 rintro vs H Q E ⟨v,D,rfl,⟨a,dx,pp,pm,pn,pk,us,rfl,ho,hpp,hpm,hpn,hpk,Ja⟩,q⟩
 exact ⟨a,dx,D,pp,pm,pn,pk,rfl,ho,fun p H' s e=>q _ _ s ⟨p,pp,pm,pk,us,rfl,e,s _ _ hpp,s _ _ hpm,s _ _ hpk,bS (fun _ _ h=>Ma.kt (al s) h) Ja⟩⟩
variable {p:Addr}
theorem Ly.but {H H':Hp} (h:Ly C H v D) (g:K3 H p) (b:K8 p H H'):Ly C H' v D:=by
 obtain ⟨a,dx,pp,pm,pn,pk,us,e,h1,h2,h3,h4,h5,h6⟩:=h
 have k:K5 H H':=fun x ys e=>b _ _ e (bG g e (fun _ _ _ z=>by cases z))
 exact ⟨a,dx,pp,pm,pn,pk,us,e,b _ _ h1 (bG g h1 (fun _ _ _ z=>by cases z)),k _ _ h2,k _ _ h3,k _ _ h4,k _ _ h5,bS (fun _ _ h=>Ma.kt k h) h6⟩
theorem E6 {H H':Hp} (g:K3 H p) (b:K8 p H H'):K5 H H':=fun x ys e=>b _ _ e (bG g e (fun _ _ _ z=>by cases z))
def NE (P:Program) (w:World) (K:ZF) (mg:Str->Option Value) (base:Heap) (x:Str) (k:Nat) (ps:List Str) (sp:Sp):Prop:=
 ∃ (f:Addr) (fd:FuncData),mg x=some (.ref f)/\PySem.W.keepIn K (.ref f)=true/\Ld K fd ps []/\L0 P w K mg base bY k f fd ps sp
variable {sp:Sp} {x:Str}
theorem NE.fn {k:Nat} (h:NE P w K mg base x k ps sp):Fn P w K mg base x k ps sp:=
 let ⟨f,fd,a,b,c,d⟩:=h;⟨f,fd,a,b,c,d.ok⟩
theorem Di {X:Cx} {k:Nat} {p pos:Pos} {e:Expr} {es:List Expr} {t:TA} (h:NE X.prog X.w X.K X.mg X.base x k ps sp) (hr:KY k X.A) (hg:Gl X x) (ha:PA X (e::es) t) (hdb:(x == ("__debug__":Str))=false:=by decide)
  (he:starEach (e::es) X.env=(false,eval e X.env)::starEach es X.env:=by rfl) (hpl:(backTo pos (starEach es X.env)).any (·.1)=false:=by rfl):Nt X (.Call (.Name x p) (e::es) [] pos) (Gg sp t):=by
 obtain ⟨f,fd,hm,hk,hb,F⟩:=h
 exact yq (E:=E0) F hr hg hm hk hb kO ha hdb he hpl
inductive mw (vs:List V) (H:Hp) (Q:VK) (Z3:XK):Prop
 | mk (p d D gt kvs lp lm lk us fn:_):vs=[.ref p,.ref d]->K3 H p->Np H d D gt kvs lp lm lk us->jV D fn gt->(∀ H',K3 H' p->K8 p H H'->Q (.bl true) H')->mw vs H Q Z3
theorem pr {fn:List Str} (hD:jV D fn gt) {l:List Nat} (hl:l.length<=20000) (ht:TK.toks l=(bL D).map cp):l.length<=20000/\(TK.toks l).length<=1500/\oA ((TK.toks l).map S) D/\mC D:=by
 refine ⟨hl,by rw [ht,GC];exact gA hD,?_,sI hD⟩
 rw [ht,lU]
 exact Ac hD
theorem nB {l:List Nat} (ht:TK.toks l=(bL D).map cp):vs (TK.toks l)=ai (bL D):=by
 rw [ht]
 exact gy _
theorem Lk:ay ["_law_stream_here","_law_table_here","_law_due","_law_tokens","_law_text_here","_law_found","_law_shown","_law_again"] ["_law_stream_here","_law_table_here"] (aj oa):=cH (by decide +kernel)
theorem vF (F:K7 K "_law_right" "_law_right" oa f fd) (B:Bl mg) (T:Tc K C) (TX:NE P w K mg base "_law_text" n ["_law_table_here"] kG) (SPL:Fn P w K mg base "_law_spelled" 2 ["_law_stream_here","_law_tokens"] jQ) (TO:Fn P w K mg base "tokens_of" 3 ["text"] on)
  (RT:Fn P w K mg base "read_table" n ["text"] (zI C)) (SH:Fn P w K mg base "show_table" n ["table"] (tQ C)) (TD:dz P w K mg base C "told" 1 ["self"] (gP C)) (hn:3<=n):KU P w K mg base bY (n+1) f fd ["_law_stream_here","_law_table_here"] mw:=by
 have ZZ:=Lk
 walk_at "o"
 ·obtain ⟨p,d,D,gt,kvs,lp,lm,lk,us,fn,rfl,hp,hV,hD,q⟩:=h
  have IS:KY 1 _:=hr.mono (by lia)
  have IU:KY 2 _:=hr.mono (by lia)
  have hr3:KY 3 _:=hr.mono (by lia)
  obtain ⟨f1,IV,M1,F1,B1⟩:=TD
  have F1':=F1.imp uv
  have tkF:=pc hD
  have hfl:=gA hD
  have hsl:=qG tkF hfl
  have sz:(100000:Nat)<=sizeLine:=by decide
  refine ⟨_,yo (fun σ H'=>σ=[some (.ref p),some (.ref d),some (.str (S (c8 D))),none,none,none,none,none]/\KO H H') (ul (i:=2) Lk.nd rfl (Or.inl rfl) (Di TX hr rfl (aa (pv 1) ab)))
   (yp (fun σ H'=>∃ lt,σ=[some (.ref p),some (.ref d),some (.str (S (c8 D))),some (.ref lt),none,none,none,none]/\KO H H'/\p≠lt/\H' lt=some (.lst (ai (bL D)))) (Ao (i:=3) Lk.nd rfl (Or.inl rfl) (BJ G9 PySem.F.slot_str_split PySem.F.type_str_split uK (pV 2 rfl (Or.inl rfl)) (aa af ab)))
   (ae (ap (i:=4) Lk.nd rfl (Or.inl rfl) (am SPL IU rfl (aa (pv 0) (aa (pv 3) ab))))
   (ae (aM (PW.pt (fL (ak (Lm hr) (am TO hr3 rfl (aa (pv 4) ab)) (pv 3) (av _)) (dL (ak (Lm hr) (am TO hr3 rfl (aa (pv 2) ab)) (pv 3) (av _))))) (ah (ao jR)) aH)
   (ae (ap (i:=5) Lk.nd rfl (Or.inl rfl) (am RT hr rfl (aa (pv 4) ab)))
   (ae (ap (i:=6) Lk.nd rfl (Or.inl rfl) (am SH hr rfl (aa (pv 5) ab)))
   (ae (aM (PW.pt (fL (eP (dA (aQ pU (by rfl) B.isinstance ff (aa (pv 6) (aa (Mi (by rfl) B.str cb) ab))))) (dL (ak pI (pv 6) (pv 2) (av _))))) (ah (ao jR)) aH)
   (ae (ap (i:=7) Lk.nd rfl (Or.inl rfl) (am RT hr rfl (aa (pv 2) ab)))
   (ah (ao (hI (cn (Nb hr) (KR (pv 7)) (KR (pv 5)) (av _)) (hI (cn be (am SH hr rfl (aa (pv 7) ab)) (pv 2) (av _)) (gZ (cn be (am SH hr rfl (aa (pv 5) ab)) (pv 2) (av _)))))))))))))),?_⟩
  refine ⟨?_,?_⟩
  rotate_left
  ·exact ⟨_,rfl,d,D,gt,kvs,lp,lm,lk,us,fn,rfl,hV,hD,fun H' s'=>⟨rfl,s'⟩⟩
  rintro σ H1 ⟨rfl,s1⟩
  refine ⟨?_,?_⟩
  rotate_left
  ·refine ⟨S (c8 D),rfl,by decide +kernel,?_,rfl,?_⟩
   ·rw [aG]
    have:(" ":Str).length=1:=by decide +kernel
    rw [this]
    lia
   ·rw [CB,jZ,nv tkF]
    refine ⟨_,_,rfl,rfl,by decide +kernel,?_,fun lt nlt=>?_⟩
    ·rw [aG]
     have:=bC tkF
     lia
    ·rw [sK tkF]
     exact ⟨lt,rfl,s1.trans (ad nlt),(hp.same s1).ne nlt,ac⟩
  rintro σ H2 ⟨lt,rfl,s2,hplt,e2⟩
  have g2:=hp.same s2
  have A4:∀ z∈bL D,li z=true:=fun z hz=>De (tkF z hz)
  refine ⟨_,rfl,_,rfl,p,lt,bL D,rfl,g2,e2,tkF,Ag hD,uf D,hfl,fun t H3 g3 b3 ht htl=>?_⟩
  have e3:=b3 _ _ e2 hplt.symm
  have hst:=nu tkF
  refine ⟨_,rfl,t,rfl,by lia,fun l4 H4 n4 e4 s4=>?_⟩
  rw [nB ht] at e4
  refine ⟨_,rfl,qM A4 e4 (s4 _ _ e3) ⟨_,rfl,ck ?_⟩⟩
  refine ⟨_,rfl,c8 D,rfl,by lia,fun l5 H5 n5 e5 s5=>?_⟩
  rw [nB hst] at e5
  refine ⟨_,rfl,qM A4 e5 ((s4.trans s5) _ _ e3) ⟨_,rfl,ck ?_⟩⟩
  obtain ⟨r1,r2,r3,r4⟩:=pr hD htl ht
  refine ⟨_,rfl,t,D,rfl,r1,r2,r3,r4,fun v6 H6 s6 T6=>?_⟩
  have hSh:=uc hD
  refine ⟨_,rfl,v6,D,rfl,T6,hSh,fun H7 s7=>?_⟩
  refine ⟨_,rfl,_,rfl,_,rfl,ck ?_⟩
  refine ⟨_,rfl,_,rfl,rfl,_,rfl,D1 rfl ?_⟩
  obtain ⟨o1,o2,o3,o4⟩:=pr hD (l:=c8 D) (by lia) hst
  refine ⟨_,rfl,c8 D,D,rfl,o1,o2,o3,o4,fun v8 H8 s8 T8=>?_⟩
  have T6':=T6.same (s7.trans s8)
  obtain ⟨a8,dx8,pp8,pm8,pn8,pk8,us8,rfl,ho8,_⟩:=id T8
  obtain ⟨a6,dx6,pp6,pm6,pn6,pk6,us6,rfl,ho6,_⟩:=id T6'
  refine ⟨_,rfl,a8,dx8,C,f1,_,IV,1,_,_,rfl,ho8,rfl,T.cl,M1,F1',IS,B1,.ref a8,D,rfl,T8,fun u9 H9 s9 V9=>?_⟩
  refine ⟨_,rfl,a6,dx6,C,f1,_,IV,1,_,_,rfl,s9 _ _ ho6,rfl,T.cl,M1,F1',IS,B1,.ref a6,D,rfl,T6'.same s9,fun u10 H10 s10 V10=>?_⟩
  have eqs:decide (V.str (S (c8 D))=V.str (S (c8 D)))=true:=decide_eq_true rfl
  refine Av hD (V9.kt (al s10)) V10 ⟨_,rfl,pP ?_⟩
  refine ⟨_,rfl,.ref a8,D,rfl,T8.same (s9.trans s10),hSh,fun H11 s11=>?_⟩
  refine ⟨_,rfl,rfl,_,rfl,br eqs ?_⟩
  refine ⟨_,rfl,.ref a6,D,rfl,T6'.same ((s9.trans s10).trans s11),hSh,fun H12 Jd=>?_⟩
  refine ⟨_,rfl,rfl,?_⟩
  rw [eqs]
  have s312:KO H3 H12:=((((((((s4.trans s5).trans s6).trans s7).trans s8).trans s9).trans s10).trans s11).trans Jd)
  exact q _ (g3.same s312) (((dB s2).trans b3).same s312)
inductive uw (K:ZF) (vs:List V) (H:Hp) (Q:VK) (Z3:XK):Prop
 | mk (a:Addr) (ns:List Int):vs=[.ref a]->KW K H a (ns.map V.int)->ns.length<=63->(∀ H',Q (.bl true) H')->uw K vs H Q Z3
theorem Aw {H H1 H2:Hp} (np:H p=none) (s:KO H H1) (b:K8 p H1 H2):KO H H2:=fun x o e=>b _ _ (s _ _ e) (aK e np)
theorem Ax {ks:List Kn} (h:Paired (Nq lk H) us ks) (x y z:Int):HO.lst us≠oe x y z:=by
 intro e
 have e':us=[V.int x,.int y,.int z]:=by
  unfold oe at e
  exact HO.lst.inj e
 subst e'
 cases h with
 | cons h _=>
  obtain ⟨t,lf,b,e,_⟩:=h
  cases e
theorem Np.but {H H':Hp} (h:Np H d D gt kvs lp lm lk us) (g:K3 H p) (b:K8 p H H'):Np H' d D gt kvs lp lm lk us:=
 ⟨b _ _ h.ed (bG g h.ed (fun _ _ _ z=>by cases z)),h.v1,h.v2,h.v3,h.v4,h.v5,h.v6,h.v7,b _ _ h.ep (bG g h.ep (cu _)),b _ _ h.em (bG g h.em (cu _)),b _ _ h.ek (bG g h.ek (Ax h.ks)),bS (fun _ _ h'=>Nq.kp (E6 g b) (xR g b) h') h.ks⟩
theorem Mn:ay ["_law_script","_law_k","_law_stream_here","_law_table_here","_law_beside","_law_kept"] ["_law_script"] (aj uQ):=cH (by decide +kernel)
theorem Dj (F:K7 K "law" "law" uQ f fd) (B:Bl mg) (T:Tc K C) (CL:Fn P w K mg base "_law_cell" 1 ["_law_script","_law_k"] (rG K)) (ST:Fn P w K mg base "_law_stream" 1 ["_law_cell_here"] lG) (LT:Fn P w K mg base "_law_table" n ["_law_stream_here","_law_most"] l0) (TX:NE P w K mg base "_law_text" n ["_law_table_here"] kG)
  (RT:Fn P w K mg base "read_table" n ["text"] (zI C)) (SH:Fn P w K mg base "show_table" n ["table"] (tQ C)) (TD:dz P w K mg base C "told" 1 ["self"] (gP C)) (RI:Fn P w K mg base "_law_right" n ["_law_stream_here","_law_table_here"] mw) (hn:1<=n):KU P w K mg base bY (n+1) f fd ["_law_script"] (uw K):=by
 have ZZ:=Mn
 walk_at "o"
 ·obtain ⟨l,ns,rfl,hS,hl,q⟩:=h
  have IS:KY 1 _:=hr.mono (by lia)
  obtain ⟨f1,IV,M1,F1,B1⟩:=TD
  have F1':=F1.imp uv
  have TX':=TX.fn
  refine ⟨_,ae (cr PassesOwn.never rfl (gC rfl B.range (aa (aQ (mI rfl) (by rfl) B.max PyProof.Rows.boot_max (aa ag (aa (aQ (mJ rfl) (by rfl) B.min PyProof.Rows.boot_min (aa (aQ bj (by rfl) B.len Hf (aa (pv 0) ab)) (aa ag ab))) ab))) ab)) (az (i:=1) Mn.nd rfl (Or.inl rfl))
    (ae (ap (i:=2) Mn.nd rfl (Or.inl rfl) (am ST IS rfl (aa (am CL IS rfl (aa (pv 0) (aa (pv 1) ab))) ab)))
    (ae (ap (i:=3) Mn.nd rfl (Or.inl rfl) (am LT hr rfl (aa (pv 2) (aa ag ab))))
    (ae (ap (i:=4) Mn.nd rfl (Or.inl rfl) (am RT hr rfl (aa (am TX' hr rfl (aa (am LT hr rfl (aa (pv 2) (aa ag ab))) ab)) ab)))
    (ae (ap (i:=5) Mn.nd rfl (Or.inl rfl) (KR (pv 4)))
    (ae (aM (PW.pt (fL (eP (dA (am RI hr rfl (aa (pv 2) (aa (pv 3) ab))))) (dL (ak (Lm hr) (KR (pv 4)) (pv 5) (av _))))) (ah (ao jR)) aH)
    (ah (aM (ak (Lm hr) (KR (am RT hr rfl (aa (am SH hr rfl (aa (pv 4) ab)) ab))) (pv 5) (av _)) (ah (ao jR)) aH))))))))
   (ah (ao jR)),?_⟩
  refine ⟨_,rfl,l,_,rfl,.inl hS,_,_,rfl,_,_,rfl,_,rfl,?_,?_,?_⟩
  ·split<;>(try split)<;>lia
  ·rw [GC];split<;>(try split)<;>lia
  refine gE (lo:=0) (fun i σ H'=>∃ v1 v2 v3 v4 v5:Option V,σ=[some (.ref l),v1,v2,v3,v4,v5]/\KO H H') ⟨_,_,_,_,_,rfl,KO.refl _⟩ ?_ ?_
  ·rintro i σ H1 hi ⟨v1,v2,v3,v4,v5,rfl,s1⟩
   refine ⟨_,rfl,_,rfl,l,ns,0+(i:Int),rfl,s1.seq hS,by lia,fun c=>⟨c,rfl,fun p H2 np s2 g2=>?_⟩⟩
   refine ⟨_,rfl,p,3,rfl,g2,by decide,by decide,fun d H3 D gt kvs lp lm lk us fn g3 b3 hV hD=>?_⟩
   refine ⟨_,rfl,p,1,rfl,g3,by decide,by decide,fun d' H4 D' gt' kvs' lp' lm' lk' us' fn' g4 b4 hV' hD'=>?_⟩
   refine ⟨d',D',gt',kvs',lp',lm',lk',us',fn',rfl,hV',hD',fun H5 s5=>?_⟩
   have tkF:=pc hD'
   have hfl:=gA hD'
   have hsl:=qG tkF hfl
   have hst:=nu tkF
   obtain ⟨o1,o2,o3,o4⟩:=pr hD' (l:=c8 D') (by lia) hst
   refine ⟨c8 D',D',rfl,o1,o2,o3,o4,fun v6 H6 s6 T6=>?_⟩
   obtain ⟨a6,dx6,pp6,pm6,pn6,pk6,us6,rfl,ho6,_⟩:=id T6
   refine ⟨_,rfl,a6,dx6,C,f1,_,IV,1,_,_,rfl,ho6,rfl,T.cl,M1,F1',IS,B1,.ref a6,D',rfl,T6,fun u7 H7 s7 V7=>?_⟩
   have s47:KO H4 H7:=(s5.trans s6).trans s7
   have g7:K3 H7 p:=g4.same s47
   have V3:Np H7 d D gt kvs lp lm lk us:=(hV.but g3 b4).same s47
   refine ⟨_,rfl,_,rfl,p,d,D,gt,kvs,lp,lm,lk,us,fn,rfl,g7,V3,hD,fun H8 g8 b8=>⟨_,rfl,ck ?_⟩⟩
   have T8:=(T6.same s7).but g7 b8
   obtain ⟨a8,dx8,pp8,pm8,pn8,pk8,us8,e8,ho8,_⟩:=id T8
   cases e8
   have V78:=V7.kt (E6 g7 b8)
   have hSh:=uc hD'
   refine ⟨_,rfl,a6,dx8,C,f1,_,IV,1,_,_,rfl,ho8,rfl,T.cl,M1,F1',IS,B1,.ref a6,D',rfl,T8,fun u9 H9 s9 V9=>⟨_,rfl,ur hD' V9 (V78.kt (al s9)) ⟨_,rfl,ck ?_⟩⟩⟩
   refine ⟨_,rfl,.ref a6,D',rfl,T8.same s9,hSh,fun H10 s10=>⟨c8 D',D',rfl,o1,o2,o3,o4,fun v11 H11 s11 T11=>?_⟩⟩
   obtain ⟨a11,dx11,pp11,pm11,pn11,pk11,us11,rfl,ho11,_⟩:=id T11
   refine ⟨a11,dx11,C,f1,_,IV,1,_,_,rfl,ho11,rfl,T.cl,M1,F1',IS,B1,.ref a11,D',rfl,T11,fun u12 H12 Jd V12=>⟨_,rfl,ur hD' V12 (V78.kt (al (((s9.trans s10).trans s11).trans Jd))) ⟨_,rfl,ck ?_⟩⟩⟩
   have s812:KO H8 H12:=((s9.trans s10).trans s11).trans Jd
   have b212:K8 p H2 H12:=((((b3.trans b4).same s47).trans b8).same s812)
   exact ⟨_,_,_,_,_,rfl,s1.trans (Aw np s2 b212)⟩
  ·rintro σ H5 ⟨v1,v2,v3,v4,v5,rfl,s5⟩
   exact q H5
def aV (K:ZF) (x:Str) (st:Stmt) (f:Addr):Prop:=
 PySem.W.nsIn K mainGlobals x=some (some (.ref f))/\∃ fd:FuncData,K7 K x x st f fd
theorem Dk {st:Stmt} {oc:Value} {od an:Option Addr} {osl:Array (Option Value)} {kV doc pm Jc ct:Value} (a:PySem.W.nsIn K mainGlobals x=some (some (.ref f)))
  (l:K.lookup f=some ⟨oc,od,.func (PySem.W.fnOf x x (dm st) (cU st) (aj st) .none kV doc pm an Jc ct),osl⟩) (c:PySem.W.codeIn K Jc x=true) (k:PySem.W.keepIn K (.ref f)=true):aV K x st f:=⟨a,_,wf l c k⟩
variable {st:Stmt}
theorem E7 {P:Program} {w:World} {base h:Heap} {k:Nat} {ps:List Str} {sp:Sp} (X:K.In h) (G:h.Ns mainGlobals mg) (D:aV K x st f)
  (hb:∀ (kV doc pm:Value) (an:Option Addr) (Jc ct:Value) (us:List Value),us.length=ps.length->bindArgs (PySem.W.fnOf x x (dm st) (cU st) (aj st) .none kV doc pm an Jc ct) ⟨us,[]⟩=pure (ps.zip us))
  (ok:∀ fd,K7 K x x st f fd->KU P w K mg base bY k f fd ps sp):Fn P w K mg base x k ps sp:=by
 obtain ⟨a,fd,F⟩:=D
 exact ⟨f,fd,Hi X G a,F.kp,F.binds hb,ok fd F⟩
structure sN (K:ZF) (x qual:Str) (st:Stmt) (f:Addr):Prop where
 fu:∃ fd:FuncData,K7 K x qual st f fd
 fn:PySem.W.isFn K (.ref f)=true
theorem Dl {K:ZF} {x qual:Str} {st:Stmt} {f:Addr} {oc:Value} {od an:Option Addr} {osl:Array (Option Value)} {kV doc pm Jc ct:Value}
  (l:K.lookup f=some ⟨oc,od,.func (PySem.W.fnOf x qual (dm st) (cU st) (aj st) .none kV doc pm an Jc ct),osl⟩) (c:PySem.W.codeIn K Jc qual=true) (k:PySem.W.keepIn K (.ref f)=true) (n:PySem.W.isFn K (.ref f)=true):sN K x qual st f:=⟨⟨_,wf l c k⟩,n⟩
variable {qual:Str}
theorem eZ {P:Program} {w:World} {mg:Str->Option Value} {base:Heap} {Cc f:Addr} {k:Nat} {ps:List Str} {sp:Sp} (a:PySem.W.findIn K (.ref Cc) x=some (some (.ref f))) (D:sN K x qual st f)
  (hb:∀ (kV doc pm:Value) (an:Option Addr) (Jc ct:Value) (us:List Value),us.length=ps.length->bindArgs (PySem.W.fnOf x qual (dm st) (cU st) (aj st) .none kV doc pm an Jc ct) ⟨us,[]⟩=pure (ps.zip us))
  (ok:∀ fd,K7 K x qual st f fd->KU P w K mg base bY k f fd ps sp):dz P w K mg base Cc x k ps sp:=by
 obtain ⟨⟨fd,F⟩,n⟩:=D
 exact ⟨f,fd,⟨a,n,F.kp⟩,ok fd F,F.binds hb⟩
theorem yE {P:Program} {w:World} {mg:Str->Option Value} {base:Heap} {ps:List Str} {sp:Sp} (D:sN K x qual st f)
  (hb:∀ (kV doc pm:Value) (an:Option Addr) (Jc ct:Value) (us:List Value),us.length=ps.length->bindArgs (PySem.W.fnOf x qual (dm st) (cU st) (aj st) .none kV doc pm an Jc ct) ⟨us,[]⟩=pure (ps.zip us))
  (ok:∀ fd,K7 K x qual st f fd->KU P w K mg base bY 1 f fd ps sp):∃ fd,KU P w K mg base bY 1 f fd ps sp/\Ld K fd ps []:=by
 obtain ⟨⟨fd,F⟩,n⟩:=D
 exact ⟨fd,ok fd F,F.binds hb⟩
def LU (K:ZF) (c:Addr):List Str->Prop
 | []=>True
 | f::r=>Lc K c f/\LU K c r
variable {c:Addr}
theorem LU.get:∀ {l:List Str},LU K c l->∀ f∈l,Lc K c f
 | [],_,f,hf=>absurd hf (by simp)
 | g::r,h,f,hf=>by
  rcases GF.mp hf with rfl|hf
  ·exact h.1
  ·exact LU.get h.2 f hf
structure CK (K:ZF) (n:Str) (c i:Addr) (fl:List Str):Prop where
 ns:PySem.W.nsIn K mainGlobals n=some (some (.ref c))
 cls:MW K c
 na:LU K c fl
 mk_:Mk K c i
theorem Bj {n:Str} {c i:Addr} {fl:List Str} (ns:PySem.W.nsIn K mainGlobals n=some (some (.ref c))) (g1:PySem.W.plainGet K c Str.empty=true) (g2:PySem.W.hasDictIn K c=true) (g3:PySem.W.plainOver K c=true)
  (g4:PySem.W.findIn K (.ref c) "__setattr__"=some (some (.builtin "object.__setattr__"))) (m1:PySem.W.makesIn K c=true) (m2:PySem.W.findIn K (.ref c) "__init__"=some (some (.ref i))) (m3:PySem.W.isFn K (.ref i)=true) (m4:PySem.W.keepIn K (.ref c)=true) (na:LU K c fl):CK K n c i fl:=
 ⟨ns,⟨g1,g2,g3,g4⟩,na,⟨m1,m2,m3,m4⟩⟩
theorem Gw {a b d:Str} (x:PySem.W.findIn K (.ref c) a=some none) (y:PySem.W.findIn K (.ref c) b=some none) (z:PySem.W.findIn K (.ref c) d=some none):LU K c [a,b,d]:=⟨x,y,z,trivial⟩
theorem Gx {a b d e f g h i:Str} (x:PySem.W.findIn K (.ref c) a=some none) (y:PySem.W.findIn K (.ref c) b=some none) (z:PySem.W.findIn K (.ref c) d=some none) (u:PySem.W.findIn K (.ref c) e=some none) (x1:PySem.W.findIn K (.ref c) f=some none) (y1:PySem.W.findIn K (.ref c) g=some none) (z1:PySem.W.findIn K (.ref c) h=some none) (u1:PySem.W.findIn K (.ref c) i=some none):LU K c [a,b,d,e,f,g,h,i]:=⟨x,y,z,u,x1,y1,z1,u1,trivial⟩
theorem eo:∀ (zs:List Str) (ts:List Tok),ts.length=zs.length->K2 (zs.map V.str) ((zs.zip ts).map fun p=>Value.str p.1 p.2)
 | [],_,_=>.nil
 | z::r,[],h=>by cases h
 | z::r,t::u,h=>.cons ⟨t,rfl⟩ (eo r u (by simpa using h))
theorem Dm {w:World} {K:ZF} {a f1 f2 f3 f4 f5 f6 f7 f8 f9:Addr} {t1 t2 t3 t4 t5 t6 t7 t8 t9:Tok} {ep:Nat}
  (h:K.lookup a=some { cls:=.type "dict",data:=.dict #[⟨PyData.keyHash w.params "+",.str "+" t1,.ref f1⟩,⟨PyData.keyHash w.params "-",.str "-" t2,.ref f2⟩,⟨PyData.keyHash w.params "&",.str "&" t3,.ref f3⟩,⟨PyData.keyHash w.params "|",.str "|" t4,.ref f4⟩,⟨PyData.keyHash w.params "^",.str "^" t5,.ref f5⟩,
   ⟨PyData.keyHash w.params "<<",.str "<<" t6,.ref f6⟩,⟨PyData.keyHash w.params ">>",.str ">>" t7,.ref f7⟩,⟨PyData.keyHash w.params "<",.str "<" t8,.ref f8⟩,⟨PyData.keyHash w.params "=",.str "=" t9,.ref f9⟩] ep }) :
  ka w K a [("+",.ref f1),("-",.ref f2),("&",.ref f3),("|",.ref f4),("^",.ref f5),("<<",.ref f6),(">>",.ref f7),("<",.ref f8),("=",.ref f9)]:=
 ⟨_,ep,h,.cons ⟨rfl,⟨_,rfl⟩,rfl⟩ (.cons ⟨rfl,⟨_,rfl⟩,rfl⟩ (.cons ⟨rfl,⟨_,rfl⟩,rfl⟩ (.cons ⟨rfl,⟨_,rfl⟩,rfl⟩ (.cons ⟨rfl,⟨_,rfl⟩,rfl⟩ (.cons ⟨rfl,⟨_,rfl⟩,rfl⟩ (.cons ⟨rfl,⟨_,rfl⟩,rfl⟩ (.cons ⟨rfl,⟨_,rfl⟩,rfl⟩ (.cons ⟨rfl,⟨_,rfl⟩,rfl⟩ .nil))))))))⟩
theorem cM {j k:Nat} (h:Fn P w K mg base x j ps sp) (hk:j<=k):Fn P w K mg base x k ps sp:=let ⟨f,fd,a,b,c,d⟩:=h;⟨f,fd,a,b,c,d.mono hk⟩
theorem yF {j k:Nat} (h:NE P w K mg base x j ps sp) (hk:j<=k):NE P w K mg base x k ps sp:=let ⟨f,fd,a,b,c,d⟩:=h;⟨f,fd,a,b,c,⟨d.len,fun A outer s H args us vs Q E hr=>d.run A outer s H args us vs Q E (hr.mono hk)⟩⟩
theorem Do {P:Program} {w:World} {base h:Heap} {k:Nat} {ps:List Str} {sp:Sp} (X:K.In h) (G:h.Ns mainGlobals mg) (D:aV K x st f)
  (hb:∀ (kV doc pm:Value) (an:Option Addr) (Jc ct:Value) (us:List Value),us.length=ps.length->bindArgs (PySem.W.fnOf x x (dm st) (cU st) (aj st) .none kV doc pm an Jc ct) ⟨us,[]⟩=pure (ps.zip us))
  (ok:∀ fd,K7 K x x st f fd->L0 P w K mg base bY k f fd ps sp):NE P w K mg base x k ps sp:=by
 obtain ⟨a,fd,F⟩:=D
 exact ⟨f,fd,Hi X G a,F.kp,F.binds hb,ok fd F⟩
theorem pw {a:Addr} {t1 t2 t3 t4 t5 t6 t7 t8 t9 t10 t11 t12 t13 t14 t15 t16 t17 t18 t19 t20 t21 t22:Tok} {n:Nat} (h:K.lookup a=some { cls:=.type "tuple",data:=.seq #[.str "word" t1,.str "cells" t2,.str "depth" t3,.str "places" t4,.str "marks" t5,.str "gate" t6,.str "kind" t7,.str "place" t8,.str "mark" t9,.str "number" t10,.str "row" t11,.str "set" t12,.str "if" t13,.str "else" t14,.str "top" t15,.str "next" t16,.str "go" t17,.str "call" t18,.str "back" t19,.str "stop" t20,.str "fault" t21,.str "bell" t22] n }):∀ H,KP K H a (ai LH):=fun H=>
 .inr ⟨_,_,n,h,rfl,rfl,aW,eo ["word","cells","depth","places","marks","gate","kind","place","mark","number","row","set","if","else","top","next","go","call","back","stop","fault","bell"] [t1,t2,t3,t4,t5,t6,t7,t8,t9,t10,t11,t12,t13,t14,t15,t16,t17,t18,t19,t20,t21,t22] rfl⟩
theorem yG {a:Addr} {t1 t2 t3 t4:Tok} {n:Nat} (h:K.lookup a=some { cls:=.type "tuple",data:=.seq #[.str "place" t1,.str "mark" t2,.str "number" t3,.str "row" t4] n }):∀ H,KP K H a (ai dv):=fun H=>
 .inr ⟨_,_,n,h,rfl,rfl,aW,eo ["place","mark","number","row"] [t1,t2,t3,t4] rfl⟩
theorem Ay {a:Addr} {t1 t2 t3 t4 t5 t6:Tok} {n:Nat} (h:K.lookup a=some { cls:=.type "tuple",data:=.seq #[.str "next" t1,.str "go" t2,.str "call" t3,.str "back" t4,.str "stop" t5,.str "fault" t6] n }):∀ H,KP K H a (ai ["next","go","call","back","stop","fault"]):=fun H=>
 .inr ⟨_,_,n,h,rfl,rfl,aW,eo ["next","go","call","back","stop","fault"] [t1,t2,t3,t4,t5,t6] rfl⟩
theorem mE {a:Addr} {t1 t2:Tok} {n:Nat} (h:K.lookup a=some { cls:=.type "tuple",data:=.seq #[.str "deep" t1,.str "bare" t2] n }):∀ H,KP K H a (ai ["deep","bare"]):=fun H=>
 .inr ⟨_,_,n,h,rfl,rfl,aW,eo ["deep","bare"] [t1,t2] rfl⟩
theorem j6 {a:Addr} {t1 t2:Tok} {n:Nat} (h:K.lookup a=some { cls:=.type "tuple",data:=.seq #[.str "<<" t1,.str ">>" t2] n }):∀ H,KP K H a ([.str "<<",.str ">>"]):=fun H=>
 .inr ⟨_,_,n,h,rfl,rfl,aW,eo ["<<",">>"] [t1,t2] rfl⟩
theorem u0 {P:List Value->Prop} (h:P []):∀ us:List Value,us.length=0->P us
 | [],_=>h
theorem u1 {P:List Value->Prop} (h:∀ a,P [a]):∀ us:List Value,us.length=1->P us
 | [_],_=>h _
theorem u2 {P:List Value->Prop} (h:∀ a b,P [a,b]):∀ us:List Value,us.length=2->P us
 | [_,_],_=>h _ _
theorem u3 {P:List Value->Prop} (h:∀ a b c,P [a,b,c]):∀ us:List Value,us.length=3->P us
 | [_,_,_],_=>h _ _ _
theorem u4 {P:List Value->Prop} (h:∀ a b c d,P [a,b,c,d]):∀ us:List Value,us.length=4->P us
 | [_,_,_,_],_=>h _ _ _ _
theorem u5 {P:List Value->Prop} (h:∀ a b c d e,P [a,b,c,d,e]):∀ us:List Value,us.length=5->P us
 | [_,_,_,_,_],_=>h _ _ _ _ _
theorem u8 {P:List Value->Prop} (h:∀ a b c d e f g h,P [a,b,c,d,e,f,g,h]):∀ us:List Value,us.length=8->P us
 | [_,_,_,_,_,_,_,_],_=>h _ _ _ _ _ _ _ _
theorem Dp {l:PySem.W.OpenLaw} {w:World} {h:Heap} {fa f0 f1 f2 f3 f4 f5 f6 f7 f8 f9 f10 f11 f12 f13 f14 f15 f16 f17 f18 f19 f20 f21 f22 f23 f24 f25 f26 f27 f28 f29 f30 f31 f32 f33 f34 f35 f36 f37 f38 f39 f40 f41 f42 f43 f44 f45 f46 f47 f48 f49 f50 f51 f52 f53 f54 f55 f56 f57 f58 f59 f60 f61 f62 cR iR cT iT J0 J5 J1 J3 J4 J2 JZ JY JX J6 Jt Ju Jr Js Jq aO e1 e2 e3 e4 e5 e6 e7 e8 e9:Addr} {JO JK JV JP JN JQ JM JL JU JH JJ JI JW:Tok} (X:K.In h) (G:h.Ns mainGlobals mg) (hfa:mg "law"=some (.ref fa))
  (d0:aV K "number_of" gG f0)
  (d1:aV K "is_whole" rn f1)
  (d2:aV K "is_within" nR f2)
  (d3:aV K "is_name" mV f3)
  (d4:aV K "ops_told" BP f4)
  (d5:aV K "read_form" js f5)
  (d6:aV K "read_bounded" fB f6)
  (d7:aV K "read_names" ii f7)
  (d8:aV K "read_kind" jt f8)
  (d9:aV K "read_fields" gf f9)
  (d10:aV K "read_field" ij f10)
  (d11:aV K "read_body" ju f11)
  (d12:aV K "read_choice" gh f12)
  (d13:aV K "read_test" jv f13)
  (d14:aV K "read_leaf" gH f14)
  (d15:aV K "read_set" lj f15)
  (d16:aV K "read_end" lA f16)
  (d17:aV K "read_expression" jw f17)
  (d18:aV K "read_cell" jx f18)
  (d19:aV K "read_two" lB f19)
  (d20:aV K "table_of_form" fC f20)
  (d21:aV K "add_name" lC f21)
  (d22:aV K "need_known" ik f22)
  (d23:aV K "kinds_named" gj f23)
  (d24:aV K "names_with_fields" il f24)
  (d25:aV K "deed_of" ke f25)
  (d26:aV K "test_of" nS f26)
  (d27:aV K "set_of" rq f27)
  (d28:aV K "end_of" rB f28)
  (d29:aV K "expression_of" nU f29)
  (d30:aV K "tokens_of" nV f30)
  (d31:aV K "sign_at" wz f31)
  (d32:aV K "run_at" BQ f32)
  (d33:aV K "read_table" im f33)
  (d34:aV K "show_table" io f34)
  (d35:aV K "head_shown" ip f35)
  (d36:aV K "kind_shown" iq f36)
  (d37:aV K "names_by_number" lD f37)
  (d38:aV K "sel_shown" jy f38)
  (d39:aV K "body_shown" ir f39)
  (d40:aV K "test_shown" iu f40)
  (d41:aV K "set_shown" jz f41)
  (d42:aV K "end_shown" jA f42)
  (d43:aV K "expression_shown" iw f43)
  (d44:aV K "_law_cell" wB f44)
  (d45:aV K "_law_stream" nW f45)
  (d46:aV K "_law_take" wC f46)
  (d47:aV K "_law_names" rC f47)
  (d48:aV K "_law_sel" sZ f48)
  (d49:aV K "_law_atom" nX f49)
  (d50:aV K "_law_expr" rD f50)
  (d51:aV K "_law_sets" nY f51)
  (d52:aV K "_law_end" tj f52)
  (d53:aV K "_law_deed" rE f53)
  (d54:aV K "_law_table" nZ f54)
  (d55:aV K "_law_sel_text" lE f55)
  (d56:aV K "_law_expr_text" jB f56)
  (d57:aV K "_law_deed_text" jC f57)
  (d58:aV K "_law_text" iy f58)
  (d59:aV K "_law_is_word" n0 f59)
  (d60:aV K "_law_spelled" lF f60)
  (d61:aV K "_law_right" oa f61)
  (d62:aV K "law" uQ f62)
  (CR:CK K "Reader" cR iR ["tokens","spot","may_end"]) (IR:sN K "__init__" "Reader.__init__" rV iR)
  (CT:CK K "Table" cT iT ["width","cells","depth","places","marks","gate","kinds","kinds_known"]) (IT:sN K "__init__" "Table.__init__" oF iT)
  (Jy:PySem.W.findIn K (.ref cR) "look"=some (some (.ref J0))) (Jj:sN K "look" "Reader.look" wF J0)
  (JF:PySem.W.findIn K (.ref cR) "take"=some (some (.ref J5))) (Jo:sN K "take" "Reader.take" FG J5)
  (Jz:PySem.W.findIn K (.ref cR) "need"=some (some (.ref J1))) (Jk:sN K "need" "Reader.need" wG J1)
  (JC:PySem.W.findIn K (.ref cR) "need_name"=some (some (.ref J3))) (Jm:sN K "need_name" "Reader.need_name" jE J3)
  (JE:PySem.W.findIn K (.ref cR) "need_number"=some (some (.ref J4))) (Jn:sN K "need_number" "Reader.need_number" gk J4)
  (JB:PySem.W.findIn K (.ref cR) "need_end"=some (some (.ref J2))) (Jl:sN K "need_end" "Reader.need_end" lI J2)
  (Jx:PySem.W.findIn K (.ref cT) "kind_at"=some (some (.ref JZ))) (Ji:sN K "kind_at" "Table.kind_at" oH JZ)
  (Jw:PySem.W.findIn K (.ref cT) "fields_of"=some (some (.ref JY))) (Jh:sN K "fields_of" "Table.fields_of" jI JY)
  (Jv:PySem.W.findIn K (.ref cT) "deed"=some (some (.ref JX))) (Jg:sN K "deed" "Table.deed" xn JX)
  (JG:PySem.W.findIn K (.ref cT) "told"=some (some (.ref J6))) (Jp:sN K "told" "Table.told" xo J6)
  (Kg:PySem.W.nsIn K mainGlobals "MOST_FIGURES"=some (some (.int 9 JO)))
  (Kc:PySem.W.nsIn K mainGlobals "LONGEST_NAME"=some (some (.int 8 JK)))
  (Kk:PySem.W.nsIn K mainGlobals "MOST_TOKENS"=some (some (.int 1500 JV)))
  (Kh:PySem.W.nsIn K mainGlobals "MOST_KINDS"=some (some (.int 8 JP)))
  (Kf:PySem.W.nsIn K mainGlobals "MOST_FIELDS"=some (some (.int 3 JN)))
  (Ki:PySem.W.nsIn K mainGlobals "MOST_SETS"=some (some (.int 4 JQ)))
  (Ke:PySem.W.nsIn K mainGlobals "MOST_CHOICES"=some (some (.int 3 JM)))
  (Kd:PySem.W.nsIn K mainGlobals "MOST_BRACKETS"=some (some (.int 3 JL)))
  (Kj:PySem.W.nsIn K mainGlobals "MOST_SIGNS"=some (some (.int 20000 JU)))
  (J9:PySem.W.nsIn K mainGlobals "FIGURES"=some (some (.str "0123456789" JH)))
  (Kb:PySem.W.nsIn K mainGlobals "LETTERS"=some (some (.str "abcdefghijklmnopqrstuvwxyz" JJ)))
  (Ka:PySem.W.nsIn K mainGlobals "GAPS"=some (some (.str " \n" JI)))
  (Kp:PySem.W.nsIn K mainGlobals "SINGLE_SIGNS"=some (some (.str "(){}[],;+-&|^<=" JW)))
  (Ko:PySem.W.nsIn K mainGlobals "OWN_WORDS"=some (some (.ref Jt))) (Ku:∀ H,KP K H Jt (ai LH))
  (Kq:PySem.W.nsIn K mainGlobals "SORTS"=some (some (.ref Ju))) (Kv:∀ H,KP K H Ju (ai dv))
  (J8:PySem.W.nsIn K mainGlobals "ENDS"=some (some (.ref Jr))) (Ks:∀ H,KP K H Jr (ai ["next","go","call","back","stop","fault"]))
  (Km:PySem.W.nsIn K mainGlobals "OWN_FAULTS"=some (some (.ref Js))) (Kt:∀ H,KP K H Js (ai ["deep","bare"]))
  (J7:PySem.W.nsIn K mainGlobals "DOUBLE_SIGNS"=some (some (.ref Jq))) (Kr:∀ H,KP K H Jq ([.str "<<",.str ">>"]))
  (Kl:PySem.W.nsIn K mainGlobals "OPS"=some (some (.ref aO))) (dO:ka w K aO [("+",.ref e1),("-",.ref e2),("&",.ref e3),("|",.ref e4),("^",.ref e5),("<<",.ref e6),(">>",.ref e7),("<",.ref e8),("=",.ref e9)]) (lo:(aO == sysModules)=false)
  (KE:PySem.W.nsIn K mainGlobals "len"=some none)
  (KB:PySem.W.nsIn K mainGlobals "int"=some none)
  (KG:PySem.W.nsIn K mainGlobals "max"=some none)
  (KH:PySem.W.nsIn K mainGlobals "min"=some none)
  (KJ:PySem.W.nsIn K mainGlobals "range"=some none)
  (KC:PySem.W.nsIn K mainGlobals "isinstance"=some none)
  (KF:PySem.W.nsIn K mainGlobals "list"=some none)
  (KK:PySem.W.nsIn K mainGlobals "str"=some none)
  (Kx:PySem.W.nsIn K mainGlobals "bool"=some none)
  (KM:PySem.W.nsIn K mainGlobals "tuple"=some none)
  (Kw:PySem.W.nsIn K mainGlobals "all"=some none)
  (Ky:PySem.W.nsIn K mainGlobals "dict"=some none)
  (Kz:PySem.W.nsIn K mainGlobals "enumerate"=some none) :
  ∃ fd:FuncData,(∀ (s:Shared) (v:Value),BindsTo s fd ⟨[v],[]⟩ [("_law_script",v)])/\∀ base:Heap,K.In base->base.Ns mainGlobals mg->KU l.prog w K mg base bY 24 fa fd ["_law_script"] (uw K):=by
 have B:Bl mg:=⟨Hs X G KE,Hs X G KB,Hs X G KG,Hs X G KH,Hs X G KJ,Hs X G KC,Hs X G KF,Hs X G KK,Hs X G Kx,Hs X G KM,Hs X G Kw⟩
 have B3:zF mg:=⟨Hs X G Ky,Hs X G Kz⟩
 have Z:rP K mg Ju Jr Js JN JQ JM JP:=⟨(Hi X G Kq),Kv,(Hi X G J8),Ks,(Hi X G Km),Kt,(Hi X G Kf),(Hi X G Ki),(Hi X G Ke),(Hi X G Kh)⟩
 have CN:BY K mg Jt JJ JK:=⟨(Hi X G Ko),Ku,(Hi X G Kb),(Hi X G Kc)⟩
 have CT2:zm K mg Jq JI JW:=⟨(Hi X G Ka),(Hi X G Kp),(Hi X G J7),Kr,B.len⟩
 have ZX:ZE mg JL:=⟨(Hi X G Kd)⟩
 have RC:Rc K cR:=⟨CR.cls,CR.na.1,CR.na.2.1,CR.na.2.2.1⟩
 have TC:Tc K cT:=⟨CT.cls,CT.na.get⟩
 obtain ⟨a14,fd,F⟩:=d62
 have e:=hfa.symm.trans (Hi X G a14)
 cases e
 obtain ⟨oc,od,kV,doc,pm,an,Jc,ct,osl,rfl,lk,hcd⟩:=id F.ex
 refine ⟨PySem.W.fnOf "law" "law" (dm uQ) (cU uQ) (aj uQ) .none kV doc pm an Jc ct,fun s v=>.of_eq rfl,fun base _ _=>?_⟩
 have f0 {x:Str} {st:Stmt} {f:Addr} {k:Nat} {ps:List Str} {sp:Sp}:=E7 (P:=l.prog) (w:=w) (base:=base) (x:=x) (st:=st) (f:=f) (k:=k) (ps:=ps) (sp:=sp) X G
 have WH:=f0 d1 (fun _ _ _ _ _ _=>by exact u1 fun _=>rfl) (fun fd F=>wI F B)
 have WI:=f0 d2 (fun _ _ _ _ _ _=>by exact u3 fun _ _ _=>rfl) (fun fd F=>uS F WH)
 have NM:=f0 d3 (fun _ _ _ _ _ _=>by exact u1 fun _=>rfl) (fun fd F=>zi F B CN)
 have NM2:=f0 d3 (fun _ _ _ _ _ _=>by exact u1 fun _=>rfl) (fun fd F=>wS F B CN)
 have NU:=f0 d0 (fun _ _ _ _ _ _=>by exact u1 fun _=>rfl) (fun fd F=>qk F B (Hi X G J9) (Hi X G Kg))
 have RM:Rm l.prog w K mg base cR:=⟨RC,(eZ (P:=l.prog) (w:=w) (mg:=mg) (base:=base) Jy Jj (fun _ _ _ _ _ _=>by exact u1 fun _=>rfl) (fun fd F=>ze F RC)),(eZ (P:=l.prog) (w:=w) (mg:=mg) (base:=base) JF Jo (fun _ _ _ _ _ _=>by exact u1 fun _=>rfl) (fun fd F=>Eb F RC))⟩
 have RM2:qO l.prog w K mg base cR:=⟨RM,(eZ (P:=l.prog) (w:=w) (mg:=mg) (base:=base) Jz Jk (fun _ _ _ _ _ _=>by exact u2 fun _ _=>rfl) (fun fd F=>zf F RM)),(eZ (P:=l.prog) (w:=w) (mg:=mg) (base:=base) JC Jm (fun _ _ _ _ _ _=>by exact u1 fun _=>rfl) (fun fd F=>qf F RM NM)),(eZ (P:=l.prog) (w:=w) (mg:=mg) (base:=base) JE Jn (fun _ _ _ _ _ _=>by exact u3 fun _ _ _=>rfl) (fun fd F=>mB F RM NU WI)),(eZ (P:=l.prog) (w:=w) (mg:=mg) (base:=base) JB Jl (fun _ _ _ _ _ _=>by exact u1 fun _=>rfl) (fun fd F=>rL F RM B))⟩
 obtain ⟨fdR,INR,bIR⟩:=yE (P:=l.prog) (w:=w) (mg:=mg) (base:=base) IR (fun _ _ _ _ _ _=>by exact u2 fun _ _=>rfl) (fun fd F=>xa F RC B (Hi X G Kk))
 obtain ⟨fdT,INT,bIT⟩:=yE (P:=l.prog) (w:=w) (mg:=mg) (base:=base) IT (fun _ _ _ _ _ _=>by exact u8 fun _ _ _ _ _ _ _ _=>rfl) (fun fd F=>xk F TC B)
 have BO:=f0 d6 (fun _ _ _ _ _ _=>by exact u4 fun _ _ _ _=>rfl) (fun fd F=>rM F RM2)
 have NA:=f0 d7 (fun _ _ _ _ _ _=>by exact u4 fun _ _ _ _=>rfl) (fun fd F=>wK F RM2 B)
 have FL:=f0 d10 (fun _ _ _ _ _ _=>by exact u1 fun _=>rfl) (fun fd F=>wV F RM2 Z)
 have ER:=f0 d16 (fun _ _ _ _ _ _=>by exact u1 fun _=>rfl) (fun fd F=>zu F RM2 Z)
 have FS:=f0 d9 (fun _ _ _ _ _ _=>by exact u1 fun _=>rfl) (fun fd F=>uW F RM2 Z B FL)
 have TE:=f0 d13 (fun _ _ _ _ _ _=>by exact u1 fun _=>rfl) (fun fd F=>w8 F RM2)
 have OP:=f0 d4 (fun _ _ _ _ _ _=>by exact u0 rfl) (fun fd F=>Cd F B (Hi X G Kl) dO rfl lo)
 have CE0:Fn l.prog w K mg base "read_cell" 3 ["reader","width","brackets"] (oo cR 0):=f0 d18 (fun _ _ _ _ _ _=>by exact u3 fun _ _ _=>rfl) (fun fd F=>du)
 have TW0:Fn l.prog w K mg base "read_two" 3 ["reader","width","brackets"] (rO cR 0):=f0 d19 (fun _ _ _ _ _ _=>by exact u3 fun _ _ _=>rfl) (fun fd F=>du)
 have EX0:=f0 d17 (fun _ _ _ _ _ _=>by exact u3 fun _ _ _=>rfl) (fun fd F=>kg F RM2 ZX NM2 CE0 TW0 (by decide))
 have CE1:=f0 d18 (fun _ _ _ _ _ _=>by exact u3 fun _ _ _=>rfl) (fun fd F=>lL F RM2 EX0 (by decide))
 have TW1:=f0 d19 (fun _ _ _ _ _ _=>by exact u3 fun _ _ _=>rfl) (fun fd F=>ot F RM2 EX0 OP (by decide))
 have EX1:=f0 d17 (fun _ _ _ _ _ _=>by exact u3 fun _ _ _=>rfl) (fun fd F=>kg F RM2 ZX NM2 CE1 TW1 (by decide))
 have CE2:=f0 d18 (fun _ _ _ _ _ _=>by exact u3 fun _ _ _=>rfl) (fun fd F=>lL F RM2 EX1 (by decide))
 have TW2:=f0 d19 (fun _ _ _ _ _ _=>by exact u3 fun _ _ _=>rfl) (fun fd F=>ot F RM2 EX1 OP (by decide))
 have EX2:=f0 d17 (fun _ _ _ _ _ _=>by exact u3 fun _ _ _=>rfl) (fun fd F=>kg F RM2 ZX NM2 CE2 TW2 (by decide))
 have CE3:=f0 d18 (fun _ _ _ _ _ _=>by exact u3 fun _ _ _=>rfl) (fun fd F=>lL F RM2 EX2 (by decide))
 have TW3:=f0 d19 (fun _ _ _ _ _ _=>by exact u3 fun _ _ _=>rfl) (fun fd F=>ot F RM2 EX2 OP (by decide))
 have EX3:=f0 d17 (fun _ _ _ _ _ _=>by exact u3 fun _ _ _=>rfl) (fun fd F=>kg F RM2 ZX NM2 CE3 TW3 (by decide))
 have SR:=f0 d15 (fun _ _ _ _ _ _=>by exact u3 fun _ _ _=>rfl) (fun fd F=>zw F RM2 EX3 (by decide))
 have LF:=f0 d14 (fun _ _ _ _ _ _=>by exact u2 fun _ _=>rfl) (fun fd F=>wZ F RM2 Z B SR ER (by decide))
 have CH0:Fn l.prog w K mg base "read_choice" 12 ["reader","width","choices"] (jH cR 0):=f0 d12 (fun _ _ _ _ _ _=>by exact u3 fun _ _ _=>rfl) (fun fd F=>du)
 have BD0:=f0 d11 (fun _ _ _ _ _ _=>by exact u3 fun _ _ _=>rfl) (fun fd F=>iX F RM2 Z CH0 (cM (k:=12) LF (by decide)) (by decide))
 have CH1:=f0 d12 (fun _ _ _ _ _ _=>by exact u3 fun _ _ _=>rfl) (fun fd F=>iA F RM2 TE BD0 (by decide))
 have BD1:=f0 d11 (fun _ _ _ _ _ _=>by exact u3 fun _ _ _=>rfl) (fun fd F=>iX F RM2 Z CH1 (cM (k:=14) LF (by decide)) (by decide))
 have CH2:=f0 d12 (fun _ _ _ _ _ _=>by exact u3 fun _ _ _=>rfl) (fun fd F=>iA F RM2 TE BD1 (by decide))
 have BD2:=f0 d11 (fun _ _ _ _ _ _=>by exact u3 fun _ _ _=>rfl) (fun fd F=>iX F RM2 Z CH2 (cM (k:=16) LF (by decide)) (by decide))
 have CH3:=f0 d12 (fun _ _ _ _ _ _=>by exact u3 fun _ _ _=>rfl) (fun fd F=>iA F RM2 TE BD2 (by decide))
 have BD3:=f0 d11 (fun _ _ _ _ _ _=>by exact u3 fun _ _ _=>rfl) (fun fd F=>iX F RM2 Z CH3 (cM (k:=18) LF (by decide)) (by decide))
 have KD:=f0 d8 (fun _ _ _ _ _ _=>by exact u2 fun _ _=>rfl) (fun fd F=>zB F RM2 FS BD3 (by decide))
 have RF:=f0 d5 (fun _ _ _ _ _ _=>by exact u1 fun _=>rfl) (fun fd F=>zE F RM2 Z B CR.mk_ (Hi X G CR.ns) INR bIR BO NA KD (by decide))
 have AN:=f0 d21 (fun _ _ _ _ _ _=>by exact u4 fun _ _ _ _=>rfl) (fun fd F=>rX F)
 have NK:=f0 d22 (fun _ _ _ _ _ _=>by exact u3 fun _ _ _=>rfl) (fun fd F=>oB F)
 have NW:=f0 d24 (fun _ _ _ _ _ _=>by exact u2 fun _ _=>rfl) (fun fd F=>Cf F B3 AN)
 have XO0:Fn l.prog w K mg base "expression_of" 1 ["names","e"] (oC 0):=f0 d29 (fun _ _ _ _ _ _=>by exact u2 fun _ _=>rfl) (fun fd F=>du)
 have XO1:=f0 d29 (fun _ _ _ _ _ _=>by exact u2 fun _ _=>rfl) (fun fd F=>kj F NK XO0 (by decide))
 have XO2:=f0 d29 (fun _ _ _ _ _ _=>by exact u2 fun _ _=>rfl) (fun fd F=>kj F NK XO1 (by decide))
 have XO3:=f0 d29 (fun _ _ _ _ _ _=>by exact u2 fun _ _=>rfl) (fun fd F=>kj F NK XO2 (by decide))
 have XO4:=f0 d29 (fun _ _ _ _ _ _=>by exact u2 fun _ _=>rfl) (fun fd F=>kj F NK XO3 (by decide))
 have SO:=f0 d27 (fun _ _ _ _ _ _=>by exact u2 fun _ _=>rfl) (fun fd F=>xi F NK XO4 (by decide))
 have TT:=f0 d26 (fun _ _ _ _ _ _=>by exact u2 fun _ _=>rfl) (fun fd F=>uZ F NK)
 have EO:=f0 d28 (fun _ _ _ _ _ _=>by exact u2 fun _ _=>rfl) (fun fd F=>vf F NK)
 have DO0:Fn l.prog w K mg base "deed_of" 6 ["names","body"] (iY 3 0):=f0 d25 (fun _ _ _ _ _ _=>by exact u2 fun _ _=>rfl) (fun fd F=>du)
 have DO1:=f0 d25 (fun _ _ _ _ _ _=>by exact u2 fun _ _=>rfl) (fun fd F=>gO F B TT EO (cM (k:=6) SO (by decide)) DO0 (by decide))
 have DO2:=f0 d25 (fun _ _ _ _ _ _=>by exact u2 fun _ _=>rfl) (fun fd F=>gO F B TT EO (cM (k:=7) SO (by decide)) DO1 (by decide))
 have DO3:=f0 d25 (fun _ _ _ _ _ _=>by exact u2 fun _ _=>rfl) (fun fd F=>gO F B TT EO (cM (k:=8) SO (by decide)) DO2 (by decide))
 have DO4:=f0 d25 (fun _ _ _ _ _ _=>by exact u2 fun _ _=>rfl) (fun fd F=>gO F B TT EO (cM (k:=9) SO (by decide)) DO3 (by decide))
 have KN:=f0 d23 (fun _ _ _ _ _ _=>by exact u2 fun _ _=>rfl) (fun fd F=>El F B NW DO4 (by decide))
 have TF:=f0 d20 (fun _ _ _ _ _ _=>by exact u1 fun _=>rfl) (fun fd F=>Em F B B3 CT.mk_ (Hi X G CT.ns) INT bIT AN NK KN (by decide))
 have SG:=f0 d31 (fun _ _ _ _ _ _=>by exact u2 fun _ _=>rfl) (fun fd F=>zp F CT2)
 have RN:=f0 d32 (fun _ _ _ _ _ _=>by exact u2 fun _ _=>rfl) (fun fd F=>B8 F CT2 SG)
 have TO:=f0 d30 (fun _ _ _ _ _ _=>by exact u1 fun _=>rfl) (fun fd F=>zq F CT2 SG RN)
 have RT:=f0 d33 (fun _ _ _ _ _ _=>by exact u1 fun _=>rfl) (fun fd F=>Eo F B (Hi X G Kj) TO RF TF (by decide) (by decide))
 have KA:dz l.prog w K mg base cT "kind_at" 1 ["self","kind"] (gv cT):=(eZ (P:=l.prog) (w:=w) (mg:=mg) (base:=base) Jx Ji (fun _ _ _ _ _ _=>by exact u2 fun _ _=>rfl) (fun fd F=>vh F TC))
 have FO:dz l.prog w K mg base cT "fields_of" 2 ["self","kind"] (xq cT):=(eZ (P:=l.prog) (w:=w) (mg:=mg) (base:=base) Jw Jh (fun _ _ _ _ _ _=>by exact u2 fun _ _=>rfl) (fun fd F=>Ep F TC KA))
 have DE:dz l.prog w K mg base cT "deed" 2 ["self","kind"] (km cT):=(eZ (P:=l.prog) (w:=w) (mg:=mg) (base:=base) Jv Jg (fun _ _ _ _ _ _=>by exact u2 fun _ _=>rfl) (fun fd F=>xu F TC KA))
 have TD:dz l.prog w K mg base cT "told" 1 ["self"] (gP cT):=(eZ (P:=l.prog) (w:=w) (mg:=mg) (base:=base) JG Jp (fun _ _ _ _ _ _=>by exact u1 fun _=>rfl) (fun fd F=>xw F TC))
 have SS:=f0 d38 (fun _ _ _ _ _ _=>by exact u3 fun _ _ _=>rfl) (fun fd F=>zK F)
 have XS0:Fn l.prog w K mg base "expression_shown" 1 ["names","e"] (tO 0):=f0 d43 (fun _ _ _ _ _ _=>by exact u2 fun _ _=>rfl) (fun fd F=>du)
 have XS1:=f0 d43 (fun _ _ _ _ _ _=>by exact u2 fun _ _=>rfl) (fun fd F=>oI F B SS XS0 (by decide))
 have XS2:=f0 d43 (fun _ _ _ _ _ _=>by exact u2 fun _ _=>rfl) (fun fd F=>oI F B SS XS1 (by decide))
 have XS3:=f0 d43 (fun _ _ _ _ _ _=>by exact u2 fun _ _=>rfl) (fun fd F=>oI F B SS XS2 (by decide))
 have XS4:=f0 d43 (fun _ _ _ _ _ _=>by exact u2 fun _ _=>rfl) (fun fd F=>oI F B SS XS3 (by decide))
 have STS:=f0 d41 (fun _ _ _ _ _ _=>by exact u2 fun _ _=>rfl) (fun fd F=>zN F SS XS4 (by decide))
 have TS:=f0 d40 (fun _ _ _ _ _ _=>by exact u2 fun _ _=>rfl) (fun fd F=>xC F SS)
 have ES:=f0 d42 (fun _ _ _ _ _ _=>by exact u2 fun _ _=>rfl) (fun fd F=>zM F B)
 have BS0:Fn l.prog w K mg base "body_shown" 6 ["names","deed"] (tP 0):=f0 d39 (fun _ _ _ _ _ _=>by exact u2 fun _ _=>rfl) (fun fd F=>du)
 have BS1:=f0 d39 (fun _ _ _ _ _ _=>by exact u2 fun _ _=>rfl) (fun fd F=>oQ F TS ES (cM (k:=6) STS (by decide)) BS0 (by decide))
 have BS2:=f0 d39 (fun _ _ _ _ _ _=>by exact u2 fun _ _=>rfl) (fun fd F=>oQ F TS ES (cM (k:=7) STS (by decide)) BS1 (by decide))
 have BS3:=f0 d39 (fun _ _ _ _ _ _=>by exact u2 fun _ _=>rfl) (fun fd F=>oQ F TS ES (cM (k:=8) STS (by decide)) BS2 (by decide))
 have BS4:=f0 d39 (fun _ _ _ _ _ _=>by exact u2 fun _ _=>rfl) (fun fd F=>oQ F TS ES (cM (k:=9) STS (by decide)) BS3 (by decide))
 have NB:=f0 d37 (fun _ _ _ _ _ _=>by exact u2 fun _ _=>rfl) (fun fd F=>Er F TC B3 FO)
 have HS:=f0 d35 (fun _ _ _ _ _ _=>by exact u1 fun _=>rfl) (fun fd F=>zO F TC B)
 have KS:=f0 d36 (fun _ _ _ _ _ _=>by exact u2 fun _ _=>rfl) (fun fd F=>Es F TC FO DE NB BS4 (by decide))
 have SHT:=f0 d34 (fun _ _ _ _ _ _=>by exact u1 fun _=>rfl) (fun fd F=>CC F TC HS KS (by decide))
 have CL:=f0 d44 (fun _ _ _ _ _ _=>by exact u2 fun _ _=>rfl) (fun fd F=>zc F B)
 have ST:=f0 d45 (fun _ _ _ _ _ _=>by exact u1 fun _=>rfl) (fun fd F=>uR F B)
 have TK1:=f0 d46 (fun _ _ _ _ _ _=>by exact u2 fun _ _=>rfl) (fun fd F=>zd F)
 have LN:=f0 d47 (fun _ _ _ _ _ _=>by exact u2 fun _ _=>rfl) (fun fd F=>vj F B TK1)
 have SL:=f0 d48 (fun _ _ _ _ _ _=>by exact u4 fun _ _ _ _=>rfl) (fun fd F=>zR F B B3 TK1)
 have AT:=f0 d49 (fun _ _ _ _ _ _=>by exact u3 fun _ _ _=>rfl) (fun fd F=>xL F B B3 TK1 SL)
 have LE0:Fn l.prog w K mg base "_law_expr" 3 ["_law_stream_here","_law_table_here","_law_fields","_law_deep"] (ku 0):=f0 d50 (fun _ _ _ _ _ _=>by exact u4 fun _ _ _ _=>rfl) (fun fd F=>du)
 have LE1:=f0 d50 (fun _ _ _ _ _ _=>by exact u4 fun _ _ _ _=>rfl) (fun fd F=>ja F TK1 AT LE0 (by decide))
 have LE2:=f0 d50 (fun _ _ _ _ _ _=>by exact u4 fun _ _ _ _=>rfl) (fun fd F=>ja F TK1 AT LE1 (by decide))
 have LE3:=f0 d50 (fun _ _ _ _ _ _=>by exact u4 fun _ _ _ _=>rfl) (fun fd F=>ja F TK1 AT LE2 (by decide))
 have LE4:=f0 d50 (fun _ _ _ _ _ _=>by exact u4 fun _ _ _ _=>rfl) (fun fd F=>ja F TK1 AT LE3 (by decide))
 have LSE:=f0 d51 (fun _ _ _ _ _ _=>by exact u4 fun _ _ _ _=>rfl) (fun fd F=>xP F B TK1 SL LE4 (by decide))
 have LEN:=f0 d52 (fun _ _ _ _ _ _=>by exact u3 fun _ _ _=>rfl) (fun fd F=>zX F B B3 TK1)
 have LD0:Fn l.prog w K mg base "_law_deed" 8 ["_law_stream_here","_law_table_here","_law_fields","_law_choices","_law_deep"] (kA 4 0):=f0 d53 (fun _ _ _ _ _ _=>by exact u5 fun _ _ _ _ _=>rfl) (fun fd F=>du)
 have LD1:=f0 d53 (fun _ _ _ _ _ _=>by exact u5 fun _ _ _ _ _=>rfl) (fun fd F=>jc F TK1 SL (cM (k:=8) LSE (by decide)) LEN LD0 (by decide))
 have LD2:=f0 d53 (fun _ _ _ _ _ _=>by exact u5 fun _ _ _ _ _=>rfl) (fun fd F=>jc F TK1 SL (cM (k:=9) LSE (by decide)) LEN LD1 (by decide))
 have LD3:=f0 d53 (fun _ _ _ _ _ _=>by exact u5 fun _ _ _ _ _=>rfl) (fun fd F=>jc F TK1 SL (cM (k:=10) LSE (by decide)) LEN LD2 (by decide))
 have LD4:=f0 d53 (fun _ _ _ _ _ _=>by exact u5 fun _ _ _ _ _=>rfl) (fun fd F=>jc F TK1 SL (cM (k:=11) LSE (by decide)) LEN LD3 (by decide))
 have LT:=f0 d54 (fun _ _ _ _ _ _=>by exact u2 fun _ _=>rfl) (fun fd F=>z5 F B TK1 LN LD4 (by decide))
 have STX:=f0 d55 (fun _ _ _ _ _ _=>by exact u3 fun _ _ _=>rfl) (fun fd F=>CU F)
 have ET0:Fn l.prog w K mg base "_law_expr_text" 1 ["_law_e","_law_table_here","_law_fields"] (tY 0):=f0 d56 (fun _ _ _ _ _ _=>by exact u3 fun _ _ _=>rfl) (fun fd F=>du)
 have ET1:=f0 d56 (fun _ _ _ _ _ _=>by exact u3 fun _ _ _=>rfl) (fun fd F=>oZ F B STX ET0 (by decide))
 have ET2:=f0 d56 (fun _ _ _ _ _ _=>by exact u3 fun _ _ _=>rfl) (fun fd F=>oZ F B STX ET1 (by decide))
 have ET3:=f0 d56 (fun _ _ _ _ _ _=>by exact u3 fun _ _ _=>rfl) (fun fd F=>oZ F B STX ET2 (by decide))
 have ET4:=f0 d56 (fun _ _ _ _ _ _=>by exact u3 fun _ _ _=>rfl) (fun fd F=>oZ F B STX ET3 (by decide))
 have DX0:Fn l.prog w K mg base "_law_deed_text" 5 ["_law_deed_here","_law_table_here","_law_fields"] (tZ 0):=f0 d57 (fun _ _ _ _ _ _=>by exact u3 fun _ _ _=>rfl) (fun fd F=>du)
 have DX1:=f0 d57 (fun _ _ _ _ _ _=>by exact u3 fun _ _ _=>rfl) (fun fd F=>o0 F B STX (cM (k:=5) ET4 (by decide)) DX0 (by decide))
 have DX2:=f0 d57 (fun _ _ _ _ _ _=>by exact u3 fun _ _ _=>rfl) (fun fd F=>o0 F B STX (cM (k:=6) ET4 (by decide)) DX1 (by decide))
 have DX3:=f0 d57 (fun _ _ _ _ _ _=>by exact u3 fun _ _ _=>rfl) (fun fd F=>o0 F B STX (cM (k:=7) ET4 (by decide)) DX2 (by decide))
 have DX4:=f0 d57 (fun _ _ _ _ _ _=>by exact u3 fun _ _ _=>rfl) (fun fd F=>o0 F B STX (cM (k:=8) ET4 (by decide)) DX3 (by decide))
 have TX:=Do (P:=l.prog) (w:=w) (base:=base) X G d58 (fun _ _ _ _ _ _=>by exact u1 fun _=>rfl) (fun fd F=>yx F B B3 DX4 (by decide))
 have IW:=f0 d59 (fun _ _ _ _ _ _=>by exact u1 fun _=>rfl) (fun fd F=>Db F)
 have SPL:=f0 d60 (fun _ _ _ _ _ _=>by exact u2 fun _ _=>rfl) (fun fd F=>Dc F B B3 TK1 IW)
 have RI:=f0 d61 (fun _ _ _ _ _ _=>by exact u2 fun _ _=>rfl) (fun fd F=>vF F B TC (yF (k:=22) TX (by decide)) SPL TO RT (cM (k:=22) SHT (by decide)) TD (by decide))
 exact Dj F B TC CL ST (cM (k:=23) LT (by decide)) (yF (k:=23) TX (by decide)) (cM (k:=23) RT (by decide)) (cM (k:=23) SHT (by decide)) TD RI (by decide)
end L3
namespace PySem.W.Fast
def tw7704175922687864171:=0
def tw17834214779164071576:=0
def tw3187044603426903127:=0
def tw17554319146038958454:=0
def tw5779359842150509373:=0
def tw12911761139569035091:=0
def tw628121557219770256:=0
def tw15332080921090729751:=0
def tw1945259839347111524:=0
def tw4763474094292376513:=0
def tw4752606851818501263:=0
def tw10959429532354878603:=0
def tw2069304536608090494:=0
def tw10373414794377601283:=0
def tw10904045130190963148:=0
def tw8948581683151557382:=0
def tw16693204360202597103:=0
def tw12599086890227001338:=0
def tw10797112945571254336:=0
def tw15696236485918385654:=0
def tw9793612582240033005:=0
def tw11052294162679912761:=0
def tw150152638218555404:=0
def tw1099313128171438566:=0
def tw3145547327003463371:=0
def tw5155012691583535800:=0
def tw5644253978183176717:=0
def tw6234887769975850212:=0
def tw252664867891514367:=0
def tw17030460795008216389:=0
def tw4710460686687509759:=0
def tw267690195307307806:=0
def tw12029399208358448638:=0
def tw1025744515063628087:=0
def tw4746008318024420397:=0
def tw18329983229990025796:=0
def tw11144896087164041975:=0
def tw8128121979593889657:=0
def tw15158377945482656946:=0
def tw13133351589618580872:=0
def tw5141255518335735900:=0
def tw4204023247175417384:=0
def tw4886286222656594628:=0
def tw1886208151939124769:=0
def tw11761776909525943518:=0
def tw14290984274798722647:=0
def tw4659997837090262366:=0
def tw5481910261002794744:=0
def tw1013233723239735732:=0
def tw3126855400259704328:=0
def tw11829117154580597199:=0
def tw15879738468754122817:=0
def tw416245637675480491:=0
def tw10941331272149058813:=0
def tw4574598556973313940:=0
def tw14061260482383288226:=0
def tw10081625998325495085:=0
def tw14658810143003984912:=0
def tw9054794726129672681:=0
def tw17472617431620467781:=0
def tw14566824443350990298:=0
def tw3808857610921453657:=0
def tw10363098003190807867:=0
def tw4821575221531326909:=0
def tw5225478564925859288:=0
def tw8286224371520978092:=0
def tw10204160063709111591:=0
def tw921315166365642918:=0
def tw7480335982905862154:=0
def tw2326072010987943149:=0
def tw5622097174484502453:=0
def tw2916173578235947721:=0
def tw16893949669079729322:=0
def tw13740935589311201893:=0
def tw10505271104079006796:=0
def tw5102361539412389179:=0
def tw1600176250410563674:=0
def tw2184159877089219880:=0
def tw13919127506243363229:=0
def tw16017674270699827285:=0
def tw9566702179264871511:=0
def tw17973124389937482654:=0
def tw15013551826380576351:=0
def tw13635961831718296482:=0
def tw17620979567058108218:=0
def tw11757529586138845728:=0
def tw13038831254134536141:=0
def tw10761254809630184634:=0
def tw13004043554972161566:=0
def tw8361539358244218061:=0
def tw9055612505524369262:=0
def tw9353642823176990849:=0
def tw10042583320980374202:=0
def tw16432081322354244108:=0
def tw14500762840976418802:=0
def tw13970891445719908297:=0
def tw2371827132398795276:=0
def tw9889428268768876587:=0
def tw10857704177306742121:=0
def tw8240169032450227129:=0
end PySem.W.Fast
local macro_rules|`(tactic| walk_at "def of the top")=>`(tactic| (refine' L3.Dk ?a ?l ?c ?k;(case a=>k_is);(case l=>k_is);(case c=>k_is);(case k=>k_is)))
local macro_rules|`(tactic| walk_at "def of a class")=>`(tactic| (refine' L3.Dl ?l ?c ?k ?n;(case l=>k_is);(case c=>k_is);(case k=>k_is);(case n=>k_is)))
local macro_rules|`(tactic| walk_at "class of 3")=>`(tactic| (refine' L3.Bj ?ns ?g1 ?g2 ?g3 ?g4 ?m1 ?m2 ?m3 ?m4 ?na;(case ns=>k_is);(case g1=>k_is);(case g2=>k_is);(case g3=>k_is);(case g4=>k_is);(case m1=>k_is);(case m2=>k_is);(case m3=>k_is);(case m4=>k_is);(case na=>(refine' L3.Gw ?x ?y ?z;(case x=>k_is);(case y=>k_is);(case z=>k_is)))))
local macro_rules|`(tactic| walk_at "class of 8")=>`(tactic| (refine' L3.Bj ?ns ?g1 ?g2 ?g3 ?g4 ?m1 ?m2 ?m3 ?m4 ?na;(case ns=>k_is);(case g1=>k_is);(case g2=>k_is);(case g3=>k_is);(case g4=>k_is);(case m1=>k_is);(case m2=>k_is);(case m3=>k_is);(case m4=>k_is);(case na=>(refine' L3.Gx ?x ?y ?z ?u ?x1 ?y1 ?z1 ?u1;(case x=>k_is);(case y=>k_is);(case z=>k_is);(case u=>k_is);(case x1=>k_is);(case y1=>k_is);(case z1=>k_is);(case u1=>k_is)))))
open PySem PySem.W PyProof.Rows
set_option maxRecDepth 100000 in
set_option maxHeartbeats 0 in
theorem PySem.Challenge.cw_rowsbeneath_k07_one_form_holds : PySem.Challenge.rw_rowsbeneath_k07_one_form.Holds := by
 w_on;o_law;k_head;(case hw=>w_witness2)
 k_fill
 refine L2.we (l:=PySem.Challenge.rw_rowsbeneath_k07_one_form) (n:=63) (k:=24) (x:="_law_script") (CX:=L2.bY) (sp:=L3.uw) rfl (by decide) rfl ⟨rfl,by decide,by decide⟩ (fun w h Y=>PySem.W.kIn_of Y) ?F (fun _ _ a ns hl _ hS=>⟨a,ns,rfl,hS,hl,fun _=>rfl⟩) (fun _ _ _ _ z=>z)
 case F=>
  intro w mg fa h KX G hmg
  refine' L3.Dp KX G hmg ?d0 ?d1 ?d2 ?d3 ?d4 ?d5 ?d6 ?d7 ?d8 ?d9 ?d10 ?d11 ?d12 ?d13 ?d14 ?d15 ?d16 ?d17 ?d18 ?d19 ?d20 ?d21 ?d22 ?d23 ?d24 ?d25 ?d26 ?d27 ?d28 ?d29 ?d30 ?d31 ?d32 ?d33 ?d34 ?d35 ?d36 ?d37 ?d38 ?d39 ?d40 ?d41 ?d42 ?d43 ?d44 ?d45 ?d46 ?d47 ?d48 ?d49 ?d50 ?d51 ?d52 ?d53 ?d54 ?d55 ?d56 ?d57 ?d58 ?d59 ?d60 ?d61 ?d62 ?CR ?IR ?CT ?IT ?Jy ?Jj ?JF ?Jo ?Jz ?Jk ?JC ?Jm ?JE ?Jn ?JB ?Jl ?Jx ?Ji ?Jw ?Jh ?Jv ?Jg ?JG ?Jp ?Kg ?Kc ?Kk ?Kh ?Kf ?Ki ?Ke ?Kd ?Kj ?J9 ?Kb ?Ka ?Kp ?Ko ?Ku ?Kq ?Kv ?J8 ?Ks ?Km ?Kt ?J7 ?Kr ?Kl ?dO ?lo ?KE ?KB ?KG ?KH ?KJ ?KC ?KF ?KK ?Kx ?KM ?Kw ?Ky ?Kz
  (case d0=>walk_at "def of the top")
  (case d1=>walk_at "def of the top")
  (case d2=>walk_at "def of the top")
  (case d3=>walk_at "def of the top")
  (case d4=>walk_at "def of the top")
  (case d5=>walk_at "def of the top")
  (case d6=>walk_at "def of the top")
  (case d7=>walk_at "def of the top")
  (case d8=>walk_at "def of the top")
  (case d9=>walk_at "def of the top")
  (case d10=>walk_at "def of the top")
  (case d11=>walk_at "def of the top")
  (case d12=>walk_at "def of the top")
  (case d13=>walk_at "def of the top")
  (case d14=>walk_at "def of the top")
  (case d15=>walk_at "def of the top")
  (case d16=>walk_at "def of the top")
  (case d17=>walk_at "def of the top")
  (case d18=>walk_at "def of the top")
  (case d19=>walk_at "def of the top")
  (case d20=>walk_at "def of the top")
  (case d21=>walk_at "def of the top")
  (case d22=>walk_at "def of the top")
  (case d23=>walk_at "def of the top")
  (case d24=>walk_at "def of the top")
  (case d25=>walk_at "def of the top")
  (case d26=>walk_at "def of the top")
  (case d27=>walk_at "def of the top")
  (case d28=>walk_at "def of the top")
  (case d29=>walk_at "def of the top")
  (case d30=>walk_at "def of the top")
  (case d31=>walk_at "def of the top")
  (case d32=>walk_at "def of the top")
  (case d33=>walk_at "def of the top")
  (case d34=>walk_at "def of the top")
  (case d35=>walk_at "def of the top")
  (case d36=>walk_at "def of the top")
  (case d37=>walk_at "def of the top")
  (case d38=>walk_at "def of the top")
  (case d39=>walk_at "def of the top")
  (case d40=>walk_at "def of the top")
  (case d41=>walk_at "def of the top")
  (case d42=>walk_at "def of the top")
  (case d43=>walk_at "def of the top")
  (case d44=>walk_at "def of the top")
  (case d45=>walk_at "def of the top")
  (case d46=>walk_at "def of the top")
  (case d47=>walk_at "def of the top")
  (case d48=>walk_at "def of the top")
  (case d49=>walk_at "def of the top")
  (case d50=>walk_at "def of the top")
  (case d51=>walk_at "def of the top")
  (case d52=>walk_at "def of the top")
  (case d53=>walk_at "def of the top")
  (case d54=>walk_at "def of the top")
  (case d55=>walk_at "def of the top")
  (case d56=>walk_at "def of the top")
  (case d57=>walk_at "def of the top")
  (case d58=>walk_at "def of the top")
  (case d59=>walk_at "def of the top")
  (case d60=>walk_at "def of the top")
  (case d61=>walk_at "def of the top")
  (case d62=>walk_at "def of the top")
  (case CR=>walk_at "class of 3")
  (case IR=>walk_at "def of a class")
  (case CT=>walk_at "class of 8")
  (case IT=>walk_at "def of a class")
  (case Jy=>k_is)
  (case Jj=>walk_at "def of a class")
  (case JF=>k_is)
  (case Jo=>walk_at "def of a class")
  (case Jz=>k_is)
  (case Jk=>walk_at "def of a class")
  (case JC=>k_is)
  (case Jm=>walk_at "def of a class")
  (case JE=>k_is)
  (case Jn=>walk_at "def of a class")
  (case JB=>k_is)
  (case Jl=>walk_at "def of a class")
  (case Jx=>k_is)
  (case Ji=>walk_at "def of a class")
  (case Jw=>k_is)
  (case Jh=>walk_at "def of a class")
  (case Jv=>k_is)
  (case Jg=>walk_at "def of a class")
  (case JG=>k_is)
  (case Jp=>walk_at "def of a class")
  (case Kg=>k_is)
  (case Kc=>k_is)
  (case Kk=>k_is)
  (case Kh=>k_is)
  (case Kf=>k_is)
  (case Ki=>k_is)
  (case Ke=>k_is)
  (case Kd=>k_is)
  (case Kj=>k_is)
  (case J9=>k_is)
  (case Kb=>k_is)
  (case Ka=>k_is)
  (case Kp=>k_is)
  (case Ko=>k_is)
  (case Ku=>refine' L3.pw ?h;(case h=>k_is))
  (case Kq=>k_is)
  (case Kv=>refine' L3.yG ?h;(case h=>k_is))
  (case J8=>k_is)
  (case Ks=>refine' L3.Ay ?h;(case h=>k_is))
  (case Km=>k_is)
  (case Kt=>refine' L3.mE ?h;(case h=>k_is))
  (case J7=>k_is)
  (case Kr=>refine' L3.j6 ?h;(case h=>k_is))
  (case Kl=>k_is)
  (case dO=>refine' L3.Dm ?h;(case h=>k_is))
  (case lo=>rfl)
  (case KE=>k_is)
  (case KB=>k_is)
  (case KG=>k_is)
  (case KH=>k_is)
  (case KJ=>k_is)
  (case KC=>k_is)
  (case KF=>k_is)
  (case KK=>k_is)
  (case Kx=>k_is)
  (case KM=>k_is)
  (case Kw=>k_is)
  (case Ky=>k_is)
  (case Kz=>k_is)
